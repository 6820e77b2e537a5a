"""Changes, which are polynomials in the place of n: rows through them, and whether they keep turn rows."""

from backafter.checks import check_row, is_from_to
from backafter.errors import NoChange, NotThere
from backafter.rows import first_bar

MOST_INTEGERS = 7
MOST_INTEGER = 10 ** 6


def through(row, change):
    """Return the row whose number of n is the row's number of the change's number of n."""
    check_row(row)
    _check_change(change)
    found = []
    at = _number_of(change, 1)
    # A change whose first integer alone is not 0 stays within the row for ever; all others leave it soon enough.
    while at <= len(row) and len(found) < len(row):
        found.append(row[at - 1])
        at = _number_of(change, len(found) + 1)
    if len(found) == 0:
        raise NotThere("the row does not go as far as the change's number of 1")
    return found


def keeps(change):
    """Tell whether each turn row without an end stays a turn row through a change."""
    _check_change(change)
    return len([number for number in change if number != 0]) == 1


def spoiler(change):
    """Return (length, n) of the shortest ring whose row is barred through a change, None if there is none."""
    if keeps(change):
        return None
    length = 2
    bar = None
    while bar is None:
        # Behind a ring of any other length there is nothing that a shorter one does not show: the change gives
        # multiples of the length just where it gives multiples of all powers of primes that make up the length, and
        # if it gives those of each nowhere, or just at the multiples of some number, it does so with the length.
        if _is_power_of_prime(length):
            bar = _bar_of_ring(length, change)
        length += 1
    return (length - 1, bar[0])


def _bar_of_ring(length, change):
    """Return the first bar of the row of one ring through a change, None if it is barred nowhere."""
    # The row repeats itself after so many numbers, each of which is the length or 0. If it is not barred among these,
    # the length stands nowhere, or just at the multiples of one divisor of it (with two of them it would have to count
    # twice at their common multiple). Then it is barred nowhere.
    return first_bar([length if _number_of(change, n) % length == 0 else 0 for n in range(1, length + 1)])


def _is_power_of_prime(number):
    prime = 2
    while number % prime != 0:
        prime += 1
    while number % prime == 0:
        number = number // prime
    return number == 1


def _number_of(change, n):
    """Return the change's number of n."""
    total = 0
    for factor in reversed(change):
        total = total * n + factor
    return total


def _check_change(change):
    if not isinstance(change, tuple) or not 1 <= len(change) <= MOST_INTEGERS:
        raise NoChange("a change is a tuple of one to seven integers")
    if not all([is_from_to(number, 0, MOST_INTEGER) for number in change]):
        raise NoChange("each integer of a change is from 0 to 10 ** 6")
    if not any(change):
        raise NoChange("not all integers of a change are 0")
