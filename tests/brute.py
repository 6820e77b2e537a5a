"""The words of the document, worked out in the plainest and slowest way, to compare with."""

from fractions import Fraction
from itertools import product


def divisors(n):
    return [d for d in range(1, n + 1) if n % d == 0]


def new_numbers(row):
    new = []
    for n in range(1, len(row) + 1):
        new.append(row[n - 1] - sum(new[d - 1] for d in divisors(n) if d < n))
    return new


def first_bar(row):
    for n, new in enumerate(new_numbers(row), start=1):
        if new % n != 0:
            return n, "rest"
        if new < 0:
            return n, "below"
    return None


def is_turn_row(row):
    return first_bar(row) is None


def row_of(counts):
    many = len(counts)
    return [sum(d * counts[d - 1] for d in divisors(n)) for n in range(1, many + 1)]


def series(row):
    """Return the items as fractions."""
    items = [Fraction(1)]
    for n in range(1, len(row) + 1):
        items.append(Fraction(sum(row[k - 1] * items[n - k] for k in range(1, n + 1)), n))
    return items


def small_rows(least, most, length):
    return [list(numbers) for numbers in product(range(least, most + 1), repeat=length)]


def is_shuffle(value, length):
    return type(value) is tuple and sorted(value) == list(range(length))


def after(shuffle, times):
    """Return where each thing is after so many turns, at least 0."""
    places = list(range(len(shuffle)))
    for _ in range(times):
        places = [shuffle[place] for place in places]
    return tuple(places)


def inverse(shuffle):
    return tuple(shuffle.index(place) for place in range(len(shuffle)))


def back_row(shuffle, many):
    row = []
    places = list(range(len(shuffle)))
    for _ in range(many):
        places = [shuffle[place] for place in places]
        row.append(sum(1 for start, place in enumerate(places) if start == place))
    return row


def lengths(shuffle):
    """Return the lengths of the rings: each thing tells that of its own, n things each the same n."""
    told = []
    for start in range(len(shuffle)):
        place, turns = shuffle[start], 1
        while place != start:
            place, turns = shuffle[place], turns + 1
        told.append(turns)
    return sorted(n for n in set(told) for _ in range(told.count(n) // n))


def told(rule, many):
    row = []
    for n in range(1, many + 1):
        number = 0
        for kind, count, size in rule:
            if kind == "power":
                number += count * size ** n
            elif kind == "ring":
                number += count * size if n % size == 0 else 0
            elif kind == "places":
                number += count * n ** size
        row.append(number)
    return row


def number_of(change, n):
    return sum(number * n ** power for power, number in enumerate(change))


def through(row, change):
    """Return the row through a change, as long as the given one at most; it may come out empty."""
    found = []
    for n in range(1, len(row) + 1):
        if number_of(change, n) > len(row):
            break
        found.append(row[number_of(change, n) - 1])
    return found


def ring_through(length, change, many):
    """Return the first numbers of the row of one ring of so many things through a change."""
    return [length if number_of(change, n) % length == 0 else 0 for n in range(1, many + 1)]


def spoiler(change, most):
    """Return (length, n) of the shortest ring, of at most so many things, that is barred within four times these."""
    for length in range(1, most + 1):
        bar = first_bar(ring_through(length, change, 4 * length))
        if bar is not None:
            return length, bar[0]
    return None


def walks(table, many):
    """Return the walks of so many steps that end where they began, each a tuple of its steps."""
    places = range(len(table))
    steps = [(one, two, which) for one in places for two in places for which in range(table[one][two])]
    found = [(step,) for step in steps]
    for _ in range(many - 1):
        found = [walk + (step,) for walk in found for step in steps if walk[-1][1] == step[0]]
    return [walk for walk in found if walk[-1][1] == walk[0][0]]


def walk_rings(table, many):
    """Return the walks of so many steps as rings: each once, whatever its beginning, and none that repeats itself."""
    found = set()
    for walk in walks(table, many):
        turns = [walk[k:] + walk[:k] for k in range(many)]
        if len(set(turns)) == many:
            found.add(min(turns))
    return found
