"""Rules, which tell rows without an end: their numbers, what bars them, and their rings."""

from backafter.checks import check_many, check_number, check_rule
from backafter.errors import Barred
from backafter.powers import to_power
from backafter.rows import first_bar, new_numbers

# Most rules that are barred are barred at once; these few numbers spare the many of _FAR.
_NEAR = 24

# A rule that is not barred up to here is barred nowhere.
#
# Places, added up to counts c1 to c6 of which one is not 0, leave a rest at an n up to 361: at a prime that does
# not divide their sum; if that is 0, at the square of a prime that does not divide c1; if that is 0 too, at a
# product of two primes p and q where p does not divide c2 * q ** 2 + .. + c6 * q ** 6. As the counts of twelve terms
# together are at most 12 * 10 ** 6, there are such primes up to 23, up to 19, and q up to 7 with p up to 37.
#
# Powers leave no rest. Let w(b, n) be the new number of n for the powers of b alone. For b from 1 on it is from 0 to
# b ** n, and for b from 2 on more than b ** n less 2 * b ** (n // 2). For -b it is -w(b, n) if n is odd, w(b, n) if
# n is a multiple of 4, and w(b * b, m) + w(b, m) if n is 2 * m with an odd m; for b it is w(b * b, m) - w(b, m) then.
# So for the n of each of these three kinds, those of rings aside, the new numbers are a sum of some g * w(b, m) with
# m = n, or else n = 2 * m, where each b is at most 40 or a square: the greatest b whose g is not 0 is at least
# 40 / 39 times the next one, and all g together are at most 24 * 10 ** 6. From m = 673 on, that is from n = 1346 on,
# that greatest b therefore tells alone whether they are below 0.
_FAR = 1400


def told(rule, many):
    """Return the numbers of 1 to many of the row of a rule."""
    check_rule(rule)
    check_many(many)
    return _numbers(rule, many)


def first_bar_ever(rule):
    """Return (n, kind) of the least n at which the row without an end is barred, None if there is none."""
    check_rule(rule)
    for many in (_NEAR, _FAR):
        bar = first_bar(_numbers(rule, many))
        if bar is not None:
            return bar
    return None


def is_turn_rule(rule):
    """Tell whether the row without an end is barred nowhere."""
    return first_bar_ever(rule) is None


def rings_of(rule, number):
    """Return how many rings of so many things the shuffle of a rule has."""
    check_rule(rule)
    check_number(number)
    bar = first_bar_ever(rule)
    if bar is not None:
        raise Barred(bar[0])
    return new_numbers(_numbers(rule, number))[number - 1] // number


def _numbers(rule, many):
    row = [0] * many
    for term in rule:
        row = [number + more for number, more in zip(row, _numbers_of_term(term, many))]
    return row


def _numbers_of_term(term, many):
    kind, count, size = term
    if kind == "power":
        return _powers(count, size, many)
    if kind == "ring":
        return [count * size if n % size == 0 else 0 for n in range(1, many + 1)]
    return [count * to_power(n, size) for n in range(1, many + 1)]


def _powers(count, base, many):
    """Return count times base, count times base squared and so on."""
    found = []
    number = count
    for _ in range(many):
        number = number * base
        found.append(number)
    return found
