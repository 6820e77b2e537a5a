"""Promises [10] and [11]: shuffles, how they are put together, and how one is led to another."""

from itertools import permutations
from math import lcm

from backafter import shuffles
from backafter.errors import NoCounts, NoMany, NoShuffle, NoTimes, TooMany
from backafter.rows import added, multiplied, rings
from backafter.shuffles import back_row, beside, lead, lengths, paired, shuffle_of, turned
from tests import brute
from tests.cases import BIG, NOT_INTEGERS, NOT_LISTS, NOT_TUPLES, Case, spoilt

SMALL = [shuffle for length in range(1, 5) for shuffle in permutations(range(length))]
SMALL_AND_FIVE = SMALL + list(permutations(range(5)))
LONG = tuple((7 * place + 11) % 300 for place in range(300))
ONE_RING = tuple((place + 1) % 300 for place in range(300))
RESTING = tuple(range(300))
LONG_RING = {many: tuple((place - 1) % many for place in range(many)) for many in range(1, 301)}
TOO_LONG = tuple((place + 1) % 301 for place in range(301))

WRONG_SHUFFLES = NOT_TUPLES + [
    (), (1,), (-1,), (0, 0), (1, 1), (0, 2), (1, 2), (2, 1), (0, -1), (-1, 0), (1, 0, 1), (0, 1, 3), (0, 1, BIG),
    (-BIG, 0, 1), TOO_LONG, tuple(range(301)), tuple(range(1, 301)), LONG[:-1] + (LONG[0],), [0, 1, 2], ((0,),),
    (False, True), (True, False), (0, True), (False,), (0.0,), (1.0, 0.0), ("0",), "0", ([], 0),
] + [
    shuffle for values in ((0,), (1, 0), (2, 0, 1, 4, 3), LONG)
    for _, shuffle in spoilt(values, NOT_INTEGERS + [-1, len(values), 300, BIG, -BIG])
]


def relabelled(shuffle, names):
    """Return the same shuffle of things whose places are called by other numbers."""
    answer = [None] * len(shuffle)
    for place, to in enumerate(shuffle):
        answer[names[place]] = names[to]
    return tuple(answer)


class InterfaceTest(Case):

    def test_each_name_is_defined_in_shuffles(self):
        for name in ["back_row", "lengths", "turned", "beside", "paired", "shuffle_of", "lead"]:
            self.assertEqual(getattr(shuffles, name).__module__, "backafter.shuffles")

    def test_arguments_may_be_passed_by_name(self):
        self.assertEqual(back_row(many=4, shuffle=(0, 2, 1)), [1, 3, 1, 3])
        self.assertEqual(lengths(shuffle=(0, 2, 1)), [1, 2])
        self.assertEqual(turned(times=2, shuffle=(1, 2, 0)), (2, 0, 1))
        self.assertEqual(beside(two=(1, 0), one=(0,)), (0, 2, 1))
        self.assertEqual(paired(two=(1, 0), one=(0, 1)), (1, 0, 3, 2))
        self.assertEqual(shuffle_of(counts=[1, 1]), (0, 2, 1))
        self.assertEqual(lead(two=(0,), one=(0,)), (0,))

    def test_returned_lists_are_new(self):
        self.gives_new_lists(back_row, (0, 2, 1), 5)
        self.gives_new_lists(lengths, (0, 2, 1))
        self.gives_new_lists(back_row, (0,), 1)
        self.gives_new_lists(lengths, (0,))


class NoShuffleTest(Case):

    def test_alone(self):
        for wrong in WRONG_SHUFFLES:
            self.fails(NoShuffle, lengths, wrong)

    def test_of_functions_of_a_shuffle_and_a_number(self):
        for call in [back_row, turned]:
            for wrong in WRONG_SHUFFLES:
                self.fails(NoShuffle, call, wrong, 1)

    def test_of_functions_of_two_shuffles(self):
        for call in [beside, paired, lead]:
            for wrong in WRONG_SHUFFLES:
                self.fails(NoShuffle, call, wrong, (1, 0))
                self.fails(NoShuffle, call, (1, 0), wrong)

    def test_comes_first(self):
        for wrong in [None, [0], (), (1,), (0, True), TOO_LONG]:
            for other in [0, -1, 301, None, True, "1", 1.5]:
                self.fails(NoShuffle, back_row, wrong, other)
                self.fails(NoShuffle, turned, wrong, other)
            self.fails(NoShuffle, beside, wrong, RESTING)
            self.fails(NoShuffle, beside, RESTING, wrong)
            self.fails(NoShuffle, paired, wrong, RESTING)
            self.fails(NoShuffle, paired, RESTING, wrong)
            self.fails(NoShuffle, lead, wrong, RESTING)
            self.fails(NoShuffle, lead, RESTING, wrong)


class BackRowTest(Case):

    def test_some(self):
        self.gives([1], back_row, (0,), 1)
        self.gives([0, 2, 0, 2, 0], back_row, (1, 0), 5)
        self.gives([1, 3, 4, 7, 1, 6, 1], back_row, shuffle_of([1, 1, 1, 1]), 7)

    def test_all_small_shuffles(self):
        for shuffle in SMALL_AND_FIVE:
            for many in (1, 2, 7, 12):
                self.gives(brute.back_row(shuffle, many), back_row, shuffle, many)

    def test_long(self):
        self.gives([1] * 300, back_row, (0,), 300)
        self.gives([300] * 300, back_row, RESTING, 300)
        self.gives([0] * 299 + [300], back_row, ONE_RING, 300)
        self.gives(brute.back_row(LONG, 300), back_row, LONG, 300)

    def test_no_many(self):
        for shuffle in ((0,), (2, 0, 1), LONG):
            for wrong in NOT_INTEGERS + [0, -1, -300, 301, BIG, -BIG]:
                self.fails(NoMany, back_row, shuffle, wrong)


class LengthsTest(Case):

    def test_some(self):
        self.gives([1], lengths, (0,))
        self.gives([1, 1, 1], lengths, (0, 1, 2))
        self.gives([2, 3], lengths, (1, 2, 0, 4, 3))
        self.gives([1, 2, 2], lengths, (1, 0, 3, 2, 4))

    def test_all_small_shuffles(self):
        for shuffle in SMALL_AND_FIVE:
            self.gives(brute.lengths(shuffle), lengths, shuffle)

    def test_long(self):
        self.gives([1] * 300, lengths, RESTING)
        self.gives([300], lengths, ONE_RING)
        self.gives(brute.lengths(LONG), lengths, LONG)


class TurnedTest(Case):

    def test_some(self):
        self.gives((0,), turned, (0,), 5)
        self.gives((2, 0, 1), turned, (1, 2, 0), 2)
        self.gives((2, 0, 1), turned, (1, 2, 0), -1)
        self.gives((0, 1, 2), turned, (1, 2, 0), 0)
        self.gives((1, 2, 0), turned, (1, 2, 0), 1)

    def test_all_small_shuffles(self):
        for shuffle in SMALL_AND_FIVE:
            back = brute.inverse(shuffle)
            for times in range(8):
                self.gives(brute.after(shuffle, times), turned, shuffle, times)
                self.gives(brute.after(back, times), turned, shuffle, -times)

    def test_many_turns(self):
        for shuffle in SMALL_AND_FIVE + [ONE_RING, LONG]:
            again = lcm(*brute.lengths(shuffle))
            for times in (BIG, -BIG, 10 ** 60 - 1, 1 - 10 ** 60, again, -again, again + 1):
                self.gives(brute.after(shuffle, times % again), turned, shuffle, times)

    def test_long(self):
        self.gives(RESTING, turned, LONG, 0)
        self.gives(LONG, turned, LONG, 1)
        self.gives(brute.inverse(LONG), turned, LONG, -1)
        self.gives(RESTING, turned, RESTING, BIG)

    def test_no_times(self):
        for shuffle in ((0,), (2, 0, 1), LONG):
            for wrong in NOT_INTEGERS:
                self.fails(NoTimes, turned, shuffle, wrong)


class BesideTest(Case):

    def test_some(self):
        self.gives((0, 1), beside, (0,), (0,))
        self.gives((1, 0, 2, 4, 3), beside, (1, 0), (0, 2, 1))
        self.gives((0, 2, 1, 4, 3), beside, (0, 2, 1), (1, 0))

    def test_all_small_shuffles(self):
        for one in SMALL:
            for two in SMALL:
                self.gives(one + tuple(place + len(one) for place in two), beside, one, two)

    def test_the_rows_are_added(self):
        for one in SMALL:
            for two in SMALL:
                self.gives(added(back_row(one, 12), back_row(two, 12)), back_row, beside(one, two), 12)

    def test_up_to_300_things(self):
        for many in (1, 150, 299):
            one, two = LONG_RING[many], LONG_RING[300 - many]
            answer = beside(one, two)
            self.assertTrue(brute.is_shuffle(answer, 300))
            self.assertEqual(answer, one + tuple(place + many for place in two))

    def test_too_many(self):
        self.fails(TooMany, beside, RESTING, (0,))
        self.fails(TooMany, beside, (0,), RESTING)
        self.fails(TooMany, beside, tuple(range(150)), tuple(range(151)))
        self.fails(TooMany, beside, RESTING, RESTING)


class PairedTest(Case):

    def test_some(self):
        self.gives((0,), paired, (0,), (0,))
        self.gives((4, 5, 3, 1, 2, 0), paired, (1, 0), (1, 2, 0))
        self.gives((3, 2, 5, 4, 1, 0), paired, (1, 2, 0), (1, 0))

    def test_all_small_shuffles(self):
        for one in SMALL:
            for two in SMALL:
                answer = [None] * (len(one) * len(two))
                for i, to in enumerate(one):
                    for j, other in enumerate(two):
                        answer[i * len(two) + j] = to * len(two) + other
                self.gives(tuple(answer), paired, one, two)

    def test_the_rows_are_multiplied(self):
        for one in SMALL:
            for two in SMALL:
                self.gives(multiplied(back_row(one, 12), back_row(two, 12)), back_row, paired(one, two), 12)

    def test_up_to_300_things(self):
        self.gives(LONG, paired, (0,), LONG)
        self.gives(LONG, paired, LONG, (0,))
        answer = paired(LONG_RING[15], LONG_RING[20])
        self.assertTrue(brute.is_shuffle(answer, 300))
        self.assertEqual((answer[0], answer[299]), (14 * 20 + 19, 13 * 20 + 18))
        self.assertEqual(lengths(answer), [60] * 5)

    def test_too_many(self):
        self.fails(TooMany, paired, LONG_RING[7], LONG_RING[43])
        self.fails(TooMany, paired, LONG_RING[43], LONG_RING[7])
        self.fails(TooMany, paired, LONG_RING[151], (0, 1))
        self.fails(TooMany, paired, (1, 0), RESTING)
        self.fails(TooMany, paired, RESTING, RESTING)


class ShuffleOfTest(Case):

    def test_some(self):
        self.gives((0,), shuffle_of, [1])
        self.gives((0, 1, 2), shuffle_of, [3])
        self.gives((1, 0), shuffle_of, [0, 1])
        self.gives((0, 1, 3, 2, 5, 6, 4), shuffle_of, [2, 1, 1])
        self.gives((1, 0, 3, 2, 5, 6, 7, 4), shuffle_of, [0, 2, 0, 1, 0])

    def test_all_small_counts(self):
        for counts in brute.small_rows(0, 2, 5):
            if counts == [0] * 5:
                continue
            answer = []
            for n, count in enumerate(counts, start=1):
                for _ in range(count):
                    start = len(answer)
                    answer += [start + (k + 1) % n for k in range(n)]
            self.gives(tuple(answer), shuffle_of, counts)
            self.gives(counts, rings, back_row(tuple(answer), 5))

    def test_up_to_300_things(self):
        self.gives(RESTING, shuffle_of, [300])
        self.gives(ONE_RING, shuffle_of, [0] * 299 + [1])
        self.gives((0,), shuffle_of, [1] + [0] * 299)
        self.gives((0,) + tuple(1 + (k + 1) % 299 for k in range(299)), shuffle_of, [1] + [0] * 297 + [1])
        self.assertEqual(lengths(shuffle_of([1] * 24)), list(range(1, 25)))

    def test_too_many(self):
        for counts in ([301], [BIG], [1, 150], [1] + [0] * 298 + [1], [0] * 299 + [2], [0] * 300 + [1], [1] * 25,
                       [0] * 299 + [BIG]):
            self.fails(TooMany, shuffle_of, counts)

    def test_none(self):
        self.fails(TooMany, shuffle_of, [0])
        self.fails(TooMany, shuffle_of, [0] * 7)
        self.fails(TooMany, shuffle_of, [0] * 300)

    def test_no_counts(self):
        for wrong in NOT_LISTS + [[]]:
            self.fails(NoCounts, shuffle_of, wrong, index=0)
        for counts in ([1], [4, 1], [1, 0, 2, 3, 4], [1] + [0] * 299):
            for place, wrong in spoilt(counts, NOT_INTEGERS + [-1, -BIG]):
                self.fails(NoCounts, shuffle_of, wrong, index=place)

    def test_no_counts_comes_before_too_many(self):
        self.fails(NoCounts, shuffle_of, [301, -1, None], index=1)
        self.fails(NoCounts, shuffle_of, [0, 0, "0"], index=2)
        self.fails(NoCounts, shuffle_of, [BIG, BIG, True], index=2)


class LeadTest(Case):

    def leads(self, one, two):
        answer = lead(one, two)
        self.assertTrue(brute.is_shuffle(answer, len(one)), (one, two))
        self.assertEqual({type(place) for place in answer}, {int})
        for i, k in enumerate(one):
            self.assertEqual(two[answer[i]], answer[k], (one, two))

    def test_all_small_shuffles(self):
        for one in SMALL:
            for two in SMALL:
                if brute.lengths(one) == brute.lengths(two):
                    self.leads(one, two)
                else:
                    self.gives(None, lead, one, two)

    def test_unlike_lengths(self):
        self.gives(None, lead, (0,), (0, 1))
        self.gives(None, lead, (0, 1), (0,))
        self.gives(None, lead, (1, 0, 2), (1, 0))
        self.gives(None, lead, RESTING, RESTING[:299])

    def test_unlike_rings(self):
        self.gives(None, lead, (0, 1), (1, 0))
        self.gives(None, lead, (1, 0, 3, 2), (0, 2, 3, 1))
        self.gives(None, lead, RESTING, ONE_RING)
        self.gives(None, lead, ONE_RING, LONG)

    def test_long(self):
        turned_about = relabelled(LONG, [299 - place for place in range(300)])
        for one, two in ((LONG, LONG), (LONG, turned_about), (turned_about, LONG), (ONE_RING, LONG_RING[300]),
                         (RESTING, RESTING), (LONG, brute.inverse(LONG))):
            self.leads(one, two)

    def test_rings_that_stand_in_another_order(self):
        self.leads((1, 2, 0, 4, 3, 5), (0, 2, 1, 4, 5, 3))
        shuffle = shuffle_of([3, 2, 1, 4])
        for factor in (1, 5, 7, 11, 25):
            self.leads(shuffle, relabelled(shuffle, [factor * place % 26 for place in range(26)]))
