"""What the tests share: values of wrong kinds, and the ways to compare calls."""

import unittest
from fractions import Fraction

from backafter.errors import RowError

NAN = float("nan")

NOT_INTEGERS = [
    None, True, False, 1.0, 2.5, NAN, float("inf"), 1j, Fraction(1), "", "1", "one", b"", b"1",
    (), (1,), [], [1], {}, {1: 1}, set(), {1}, frozenset(), range(1, 2), object(), int, len, ...,
]
NEITHER = [
    None, True, False, 0, 1, -3, 300, 2.0, NAN, 1j, "", "0", "1, 3, 4, 7", b"", b"\x00", b"\x01\x00",
    {}, {0: 0}, {1: 1}, set(), {0, 1}, frozenset({1}), range(0), range(2), iter([1]), bytearray(b"\x01"),
    object(), list, tuple, len, ...,
]
NOT_LISTS = NEITHER + [(), (1,), (1, 3, 4, 7), (1, None), ([1],)]
NOT_TUPLES = NEITHER + [[], [0], [1, 0], [(0,)]]
BIG = 10 ** 59 + 7


def with_item(values, place, item):
    """Return a copy of a list or a tuple that has another item at a place."""
    changed = list(values)
    changed[place] = item
    return type(values)(changed)


def spoilt(values, wrong):
    """Yield (place, copy) with each wrong item at the first, a middle and the last place."""
    for place in sorted({0, len(values) // 2, len(values) - 1}):
        for item in wrong:
            yield place, with_item(values, place, item)


def held(value):
    """Return what a value holds, with the kinds of all that is in it."""
    if isinstance(value, (list, tuple)):
        return type(value), [held(item) for item in value]
    return type(value), value


class Case(unittest.TestCase):
    """A test case that also looks at kinds of values, and at arguments behind a call."""

    def gives(self, answer, call, *args):
        """The call returns this answer, of this kind, and leaves its arguments as they are."""
        before = held(args)
        self.assertEqual(held(call(*args)), held(answer), (call, args))
        self.assertEqual(held(args), before, call)

    def fails(self, kind, call, *args, **fields):
        """The call raises an error of just this class, with these fields, and changes nothing."""
        before = held(args)
        with self.assertRaises(RowError, msg=(call, args)) as caught:
            call(*args)
        self.assertIs(type(caught.exception), kind, (call, args))
        for name, value in fields.items():
            self.assertEqual(held(getattr(caught.exception, name)), held(value), (call, args))
        self.assertEqual(held(args), before, call)

    def gives_new_lists(self, call, *args):
        """A returned list is nobody else's: neither an argument nor what a later call returns."""
        before = held(args)
        first = call(*args)
        answer = held(first)
        first[0] += 1000
        first.append(1000)
        self.assertEqual(held(args), before, call)
        second = call(*args)
        self.assertEqual(held(second), answer, call)
        for argument in args:
            if isinstance(argument, list):
                argument[:] = [1000] * (len(argument) + 1)
        self.assertEqual(held(second), answer, call)
