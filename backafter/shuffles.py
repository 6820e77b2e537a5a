"""Shuffles: how many things are back, shuffles put together, and led one to another."""

from backafter.checks import MOST_THINGS, check_counts, check_many, check_shuffle, is_whole
from backafter.errors import NoTimes, TooMany


def back_row(shuffle, many):
    """Return the row of how many things are where they were, after 1 to many turns."""
    found = lengths(shuffle)
    check_many(many)
    return [sum([length for length in found if n % length == 0]) for n in range(1, many + 1)]


def lengths(shuffle):
    """Return the ascending list of the lengths of the rings of a shuffle."""
    check_shuffle(shuffle)
    return sorted([len(ring) for ring in _rings_in(shuffle)])


def turned(shuffle, times):
    """Return the shuffle that is so many turns of this one, below 0 turns back."""
    check_shuffle(shuffle)
    if not is_whole(times):
        raise NoTimes("how many turns is an integer")
    found = [0] * len(shuffle)
    for ring in _rings_in(shuffle):
        for at, place in enumerate(ring):
            found[place] = ring[(at + times) % len(ring)]
    return tuple(found)


def beside(one, two):
    """Return the shuffle of the things of one and then those of two."""
    check_shuffle(one)
    check_shuffle(two)
    _check_things(len(one) + len(two))
    return one + tuple([len(one) + place for place in two])


def paired(one, two):
    """Return the shuffle of all pairs of a place of one and a place of two."""
    check_shuffle(one)
    check_shuffle(two)
    _check_things(len(one) * len(two))
    return tuple([left * len(two) + right for left in one for right in two])


def shuffle_of(counts):
    """Return the shuffle with these rings, those of one thing first."""
    check_counts(counts)
    _check_things(sum([n * count for n, count in enumerate(counts, start=1)]))
    found = []
    for n, count in enumerate(counts, start=1):
        for _ in range(count):
            first = len(found)
            found.extend([first + k for k in range(1, n)])
            found.append(first)
    return tuple(found)


def lead(one, two):
    """Return a shuffle that leads the things of one to those of two, None if there is none."""
    if lengths(one) != lengths(two):
        return None
    found = [0] * len(one)
    sources = sorted(_rings_in(one), key=len)
    targets = sorted(_rings_in(two), key=len)
    for source, target in zip(sources, targets):
        for place, other in zip(source, target):
            found[place] = other
    return tuple(found)


def _rings_in(shuffle):
    """Return the rings of a shuffle, each a list of its places in the order in which a thing goes through them."""
    found = []
    seen = [False] * len(shuffle)
    for first in range(len(shuffle)):
        if not seen[first]:
            ring = []
            place = first
            while not seen[place]:
                seen[place] = True
                ring.append(place)
                place = shuffle[place]
            found.append(ring)
    return found


def _check_things(many):
    if not 1 <= many <= MOST_THINGS:
        raise TooMany("a shuffle has at least one and at most 300 things")
