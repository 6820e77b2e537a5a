"""Rows: what is new in them, what bars them, and what can be made of them."""

from math import gcd, lcm

from backafter.checks import check_counts, check_row, is_from_to, is_whole
from backafter.errors import Barred, NoHole, NoPower, NoSeries, NoStep, NotWhole
from backafter.powers import to_power

MOST_POWER = 6


def new_numbers(row):
    """Return the list of the new numbers of a row."""
    check_row(row)
    many = len(row)
    new = list(row)
    for n in range(1, many + 1):
        # All divisors below n have been taken off by now, so this one is settled.
        for multiple in range(2 * n, many + 1, n):
            new[multiple - 1] -= new[n - 1]
    return new


def first_bar(row):
    """Return (n, kind) of the least n at which a row is barred, None for a turn row."""
    for n, new in enumerate(new_numbers(row), start=1):
        if new % n != 0:
            return (n, "rest")
        if new < 0:
            return (n, "below")
    return None


def rings(row):
    """Return how many rings of 1, 2, 3 and so on things the shuffle of a turn row has."""
    bar = first_bar(row)
    if bar is not None:
        raise Barred(bar[0])
    return [new // n for n, new in enumerate(new_numbers(row), start=1)]


def row_of(counts):
    """Return the turn row with these rings."""
    check_counts(counts)
    many = len(counts)
    row = [0] * many
    for n, count in enumerate(counts, start=1):
        for multiple in range(n, many + 1, n):
            row[multiple - 1] += n * count
    return row


def series(row):
    """Return the series of a row, an item longer than the row."""
    check_row(row)
    items = [1]
    for n in range(1, len(row) + 1):
        total = sum([row[k - 1] * items[n - k] for k in range(1, n + 1)])
        if total % n != 0:
            raise NotWhole(n)
        items.append(total // n)
    return items


def row_of_series(items):
    """Return the row with this series."""
    _check_series(items)
    row = []
    for n in range(1, len(items)):
        before = sum([row[k - 1] * items[n - k] for k in range(1, n)])
        row.append(n * items[n] - before)
    return row


def _check_series(items):
    if not isinstance(items, list) or len(items) < 2:
        raise NoSeries("a series is a list of at least two integers")
    if not all([is_whole(item) for item in items]):
        raise NoSeries("each item of a series is an integer")
    if items[0] != 1:
        raise NoSeries("a series begins with 1")


def added(one, two):
    """Return the row of the sums of two rows, as far as both go."""
    check_row(one)
    check_row(two)
    return [left + right for left, right in zip(one, two)]


def multiplied(one, two):
    """Return the row of the products of two rows, as far as both go."""
    check_row(one)
    check_row(two)
    return [left * right for left, right in zip(one, two)]


def each(row, step):
    """Return the row of the numbers of step, twice step and so on."""
    check_row(row)
    if not is_from_to(step, 1, len(row)):
        raise NoStep("a step is an integer from 1 to the length of the row")
    return row[step - 1::step]


def at_powers(row, power):
    """Return the row of the numbers of 1, of 2 to this power, of 3 to it and so on."""
    check_row(row)
    if not is_from_to(power, 1, MOST_POWER):
        raise NoPower("a power is an integer from 1 to 6")
    found = []
    at = 1
    while at <= len(row):
        found.append(row[at - 1])
        at = to_power(len(found) + 1, power)
    return found


def least_factor(row):
    """Return the least factor that makes a row a turn row, None if there is none."""
    factor = 1
    for n, new in enumerate(new_numbers(row), start=1):
        if new < 0:
            return None
        factor = lcm(factor, n // gcd(n, new))
    return factor


def least_above(row):
    """Return the least turn row of this length none of whose numbers is less than the row's."""
    check_row(row)
    many = len(row)
    above = [0] * many
    for n, least in enumerate(row, start=1):
        lacking = max(0, least - above[n - 1])
        new = lacking + (-lacking) % n
        for multiple in range(n, many + 1, n):
            above[multiple - 1] += new
    return above


def hole(items):
    """Return (first, step, last) of the integers that fit into the hole, None if there are none."""
    _check_hole(items)
    # With x in the hole, each new number is the fixed one plus its share times x; each share is -1, 0 or 1.
    fixed = new_numbers([0 if item is None else item for item in items])
    shares = new_numbers([1 if item is None else 0 for item in items])
    if any([new < 0 for new, share in zip(fixed, shares) if share == 0]):
        return None
    common = _common_rest(fixed, shares)
    if common is None:
        return None
    rest, step = common
    # The hole's own n has the share 1, so there always is a least one.
    least = max([-new for new, share in zip(fixed, shares) if share == 1])
    first = least + (rest - least) % step
    tops = [new for new, share in zip(fixed, shares) if share == -1]
    if len(tops) == 0:
        return (first, step, None)
    most = min(tops)
    last = most - (most - rest) % step
    if last < first:
        return None
    return (first, 0 if first == last else step, last)


def _check_hole(items):
    if not isinstance(items, list):
        raise NoHole("items with a hole are a list")
    numbers = [item for item in items if item is not None]
    if len(numbers) != len(items) - 1:
        raise NoHole("there is one hole")
    if not all([is_whole(number) for number in numbers]):
        raise NoHole("all but the hole are integers")


def _common_rest(fixed, shares):
    """Return (rest, step) of the integers rest + k * step, with just which no new number leaves a rest."""
    rest, step = 0, 1
    for n, (new, share) in enumerate(zip(fixed, shares), start=1):
        if share == 0:
            if new % n != 0:
                return None
        else:
            rest = _first_with_rest(rest, step, (-share * new) % n, n)
            if rest is None:
                return None
            step = lcm(step, n)
    return (rest, step)


def _first_with_rest(start, step, rest, n):
    """Return the first of start, start + step and so on that leaves this rest by n, None if none does."""
    for k in range(n):
        # The rests by n come again after n steps at the latest.
        if (start + k * step) % n == rest:
            return start + k * step
    return None
