"""The words of the document, worked out in the plainest and slowest way, to compare with."""

from fractions import Fraction
from itertools import product


def divisors(n):
    return [d for d in range(1, n + 1) if n % d == 0]


def new_numbers(row):
    new = []
    for n in range(1, len(row) + 1):
        new.append(row[n - 1] - sum(new[d - 1] for d in divisors(n) if d < n))
    return new


def first_bar(row):
    for n, new in enumerate(new_numbers(row), start=1):
        if new % n != 0:
            return n, "rest"
        if new < 0:
            return n, "below"
    return None


def is_turn_row(row):
    return first_bar(row) is None


def row_of(counts):
    many = len(counts)
    return [sum(d * counts[d - 1] for d in divisors(n)) for n in range(1, many + 1)]


def series(row):
    """Return the items as fractions."""
    items = [Fraction(1)]
    for n in range(1, len(row) + 1):
        items.append(Fraction(sum(row[k - 1] * items[n - k] for k in range(1, n + 1)), n))
    return items


def small_rows(least, most, length):
    return [list(numbers) for numbers in product(range(least, most + 1), repeat=length)]


def is_shuffle(value, length):
    return type(value) is tuple and sorted(value) == list(range(length))


def after(shuffle, times):
    """Return where each thing is after so many turns, at least 0."""
    places = list(range(len(shuffle)))
    for _ in range(times):
        places = [shuffle[place] for place in places]
    return tuple(places)


def inverse(shuffle):
    return tuple(shuffle.index(place) for place in range(len(shuffle)))


def back_row(shuffle, many):
    row = []
    places = list(range(len(shuffle)))
    for _ in range(many):
        places = [shuffle[place] for place in places]
        row.append(sum(1 for start, place in enumerate(places) if start == place))
    return row


def lengths(shuffle):
    """Return the lengths of the rings: each thing tells that of its own, n things each the same n."""
    told = []
    for start in range(len(shuffle)):
        place, turns = shuffle[start], 1
        while place != start:
            place, turns = shuffle[place], turns + 1
        told.append(turns)
    return sorted(n for n in set(told) for _ in range(told.count(n) // n))
