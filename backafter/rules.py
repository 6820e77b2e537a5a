"""Rules, which tell rows without an end: their numbers, what bars them, and their rings."""

from backafter.checks import check_many, check_number, check_rule
from backafter.errors import Barred
from backafter.ever import first_below, new_number
from backafter.powers import to_power
from backafter.rows import first_bar

# Most rules that are barred are barred at once.
_NEAR = 24


def told(rule, many):
    """Return the numbers of 1 to many of the row of a rule."""
    check_rule(rule)
    check_many(many)
    return _numbers(rule, many)


def first_bar_ever(rule):
    """Return (n, kind) of the least n at which the row without an end is barred, None if there is none."""
    check_rule(rule)
    many = _NEAR
    bar = first_bar(_numbers(rule, many))
    # Places that do not come to nothing leave a rest somewhere. All others never leave one.
    while bar is None and len(_counts_of(rule, "places")) > 0:
        many = 2 * many
        bar = first_bar(_numbers(rule, many))
    if bar is not None:
        return bar
    n = first_below(_counts_of(rule, "power"), _counts_of(rule, "ring"), _NEAR + 1)
    return None if n is None else (n, "below")


def is_turn_rule(rule):
    """Tell whether the row without an end is barred nowhere."""
    return first_bar_ever(rule) is None


def rings_of(rule, number):
    """Return how many rings of so many things the shuffle of a rule has."""
    check_rule(rule)
    check_number(number)
    bar = first_bar_ever(rule)
    if bar is not None:
        raise Barred(bar[0])
    # The places of a rule that is barred nowhere come to nothing.
    return new_number(_counts_of(rule, "power"), _counts_of(rule, "ring"), number) // number


def _counts_of(rule, kind):
    """Return a dict of the counts of the terms of a kind, those of each size added up, without those that are 0."""
    counts = {}
    for name, count, size in rule:
        if name == kind:
            counts[size] = counts.get(size, 0) + count
    return {size: count for size, count in counts.items() if count != 0}


def _numbers(rule, many):
    row = [0] * many
    for term in rule:
        row = [number + more for number, more in zip(row, _numbers_of_term(term, many))]
    return row


def _numbers_of_term(term, many):
    kind, count, size = term
    if kind == "power":
        return _powers(count, size, many)
    if kind == "ring":
        return [count * size if n % size == 0 else 0 for n in range(1, many + 1)]
    return [count * to_power(n, size) for n in range(1, many + 1)]


def _powers(count, base, many):
    """Return count times base, count times base squared and so on."""
    found = []
    number = count
    for _ in range(many):
        number = number * base
        found.append(number)
    return found
