"""Promises [4] to [8]: rows, their new numbers and rings, series, and what is made of rows."""

from fractions import Fraction
from math import lcm

from backafter import rows
from backafter.errors import Barred, NoCounts, NoPower, NoRow, NoSeries, NoStep, NotWhole
from backafter.rows import added, at_powers, each, first_bar, least_above, least_factor, multiplied, new_numbers
from backafter.rows import rings, row_of, row_of_series, series
from tests import brute
from tests.cases import BIG, NOT_INTEGERS, NOT_LISTS, Case, held, spoilt

LONG = [BIG + 31 * n * n for n in range(1, 301)]
LONG_COUNTS = [(BIG + n) // n if n % 3 else 0 for n in range(1, 301)]
LONG_TURN_ROW = brute.row_of(LONG_COUNTS)
WRONG_ROWS = [[]] + NOT_LISTS + [
    row for values in ([1], [1, 3], [1, 3, 4, 7], LONG_TURN_ROW) for _, row in spoilt(values, NOT_INTEGERS)
]
SMALL_ROWS = brute.small_rows(-2, 5, 4)


class InterfaceTest(Case):

    def test_each_name_is_defined_in_rows(self):
        for name in [
            "new_numbers", "rings", "row_of", "series", "row_of_series", "added", "multiplied", "each", "at_powers",
            "least_above", "first_bar", "hole", "least_factor",
        ]:
            self.assertEqual(getattr(rows, name).__module__, "backafter.rows")

    def test_arguments_may_be_passed_by_name(self):
        self.assertEqual(new_numbers(row=[1, 3, 4, 7]), [1, 2, 3, 4])
        self.assertEqual(first_bar(row=[1, 2, 3, 4]), (2, "rest"))
        self.assertEqual(rings(row=[1, 3, 4, 7]), [1, 1, 1, 1])
        self.assertEqual(row_of(counts=[1, 1, 1, 1]), [1, 3, 4, 7])
        self.assertEqual(series(row=[1, 3, 4, 7]), [1, 1, 2, 3, 5])
        self.assertEqual(row_of_series(items=[1, 1, 2, 3, 5]), [1, 3, 4, 7])
        self.assertEqual(added(two=[1, 2], one=[10, 20]), [11, 22])
        self.assertEqual(multiplied(two=[1, 2], one=[10, 20]), [10, 40])
        self.assertEqual(each(step=2, row=[1, 3, 4, 7]), [3, 7])
        self.assertEqual(at_powers(power=2, row=[1, 3, 4, 7]), [1, 7])
        self.assertEqual(least_factor(row=[1, 2, 3, 4]), 6)
        self.assertEqual(least_above(row=[1, 2, 3, 4]), [1, 3, 4, 7])

    def test_returned_lists_are_new(self):
        for call in [new_numbers, rings, row_of, series, least_above]:
            self.gives_new_lists(call, [1, 3, 4, 7])
            self.gives_new_lists(call, [0])
        self.gives_new_lists(row_of_series, [1, 1, 2, 3, 5])
        for call in [added, multiplied]:
            self.gives_new_lists(call, [1, 3, 4, 7], [1, 1, 1, 1])
            self.gives_new_lists(call, [0, 0], [0, 0])
        for call in [each, at_powers]:
            self.gives_new_lists(call, [1, 3, 4, 7], 1)
            self.gives_new_lists(call, [1, 3, 4, 7], 2)

    def test_one_list_may_be_passed_twice(self):
        row = [1, 3, 4]
        self.gives([2, 6, 8], added, row, row)
        self.gives([1, 9, 16], multiplied, row, row)


class NoRowTest(Case):

    def test_of_functions_of_a_row(self):
        for call in [new_numbers, first_bar, rings, series, least_factor, least_above]:
            for wrong in WRONG_ROWS:
                self.fails(NoRow, call, wrong)

    def test_of_functions_of_two_rows(self):
        for call in [added, multiplied]:
            for wrong in WRONG_ROWS:
                self.fails(NoRow, call, wrong, [1, 3])
                self.fails(NoRow, call, [1, 3], wrong)
            self.fails(NoRow, call, [1, 2], [1, 2, None])
            self.fails(NoRow, call, [1, 2, None], [1, 2])

    def test_of_functions_of_a_row_and_a_number(self):
        for call in [each, at_powers]:
            for wrong in WRONG_ROWS:
                self.fails(NoRow, call, wrong, 1)

    def test_comes_before_the_other_argument(self):
        for wrong in [None, (1, 2), [], [1, True], [1, 2, "3"]]:
            for other in [0, -1, 7, True, None, "1"]:
                self.fails(NoRow, each, wrong, other)
                self.fails(NoRow, at_powers, wrong, other)

    def test_comes_before_what_the_row_is(self):
        for row in ([1, 2, None], [1, 2, 3, True], [-1, "x"]):
            self.fails(NoRow, rings, row)
            self.fails(NoRow, series, row)
            self.fails(NoRow, first_bar, row)
            self.fails(NoRow, least_factor, row)


class NewNumbersTest(Case):

    def test_some(self):
        self.gives([5], new_numbers, [5])
        self.gives([-5], new_numbers, [-5])
        self.gives([1, 2, 3, 4], new_numbers, [1, 3, 4, 7])
        self.gives([1, 1, 2, 2, 4, 2], new_numbers, [1, 2, 3, 4, 5, 6])
        self.gives([2, -2, -2, 0, -2, 2, -2, 0, 0, 2, -2, 0], new_numbers, [2] + [0] * 11)

    def test_all_small_rows(self):
        for row in SMALL_ROWS:
            self.gives(brute.new_numbers(row), new_numbers, row)

    def test_long_rows(self):
        self.gives(brute.new_numbers(LONG), new_numbers, LONG)
        self.gives([n * count for n, count in enumerate(LONG_COUNTS, start=1)], new_numbers, LONG_TURN_ROW)
        self.gives([-BIG] + [0] * 299, new_numbers, [-BIG] * 300)


class FirstBarTest(Case):

    def test_turn_rows(self):
        for row in [[0], [7], [BIG], [0, 0, 0], [1, 3, 4, 7], [1, 1, 1, 1, 1], [0, 2, 0, 2], LONG_TURN_ROW]:
            self.gives(None, first_bar, row)

    def test_kinds(self):
        self.gives((1, "below"), first_bar, [-1])
        self.gives((1, "below"), first_bar, [-BIG, 1, 1])
        self.gives((2, "rest"), first_bar, [1, 2, 3, 4])
        self.gives((2, "below"), first_bar, [2, 0])
        self.gives((3, "rest"), first_bar, [1, 1, 3])
        self.gives((3, "below"), first_bar, [3, 3, 0])

    def test_a_rest_goes_before_below_at_the_same_n(self):
        self.gives((2, "rest"), first_bar, [1, 0])
        self.gives((3, "rest"), first_bar, [1, 1, 0, -7])
        self.gives((4, "rest"), first_bar, [0, 0, 0, -1])

    def test_the_least_n_counts_whatever_the_kind(self):
        self.gives((2, "below"), first_bar, [2, 0, 1])
        self.gives((1, "below"), first_bar, [-1, 0, 0])
        self.gives((2, "rest"), first_bar, [2, 3, -1])

    def test_all_small_rows(self):
        for row in SMALL_ROWS:
            self.gives(brute.first_bar(row), first_bar, row)

    def test_the_last_of_a_long_row(self):
        self.gives((300, "rest"), first_bar, LONG_TURN_ROW[:-1] + [LONG_TURN_ROW[-1] + 150])
        below = LONG_TURN_ROW[-1] - 300 * LONG_COUNTS[-1] - 300
        self.gives((300, "below"), first_bar, LONG_TURN_ROW[:-1] + [below])
        self.gives((300, "rest"), first_bar, LONG_TURN_ROW[:-1] + [below - 1])


class RingsTest(Case):

    def test_some(self):
        self.gives([1, 1, 1, 1], rings, [1, 3, 4, 7])
        self.gives([0], rings, [0])
        self.gives([BIG], rings, [BIG])
        self.gives([0, 1, 0, 2], rings, [0, 2, 0, 10])
        self.gives(LONG_COUNTS, rings, LONG_TURN_ROW)

    def test_all_small_rows(self):
        for row in SMALL_ROWS:
            bar = brute.first_bar(row)
            if bar is None:
                new = brute.new_numbers(row)
                self.gives([new[n - 1] // n for n in range(1, 5)], rings, row)
            else:
                self.fails(Barred, rings, row, n=bar[0])

    def test_barred(self):
        self.fails(Barred, rings, [-1], n=1)
        self.fails(Barred, rings, [2, 0, 1], n=2)
        self.fails(Barred, rings, LONG_TURN_ROW[:-1] + [LONG_TURN_ROW[-1] + 1], n=300)


class RowOfTest(Case):

    def test_some(self):
        self.gives([0], row_of, [0])
        self.gives([BIG], row_of, [BIG])
        self.gives([1, 3, 4, 7], row_of, [1, 1, 1, 1])
        self.gives([0, 2, 0, 10, 0, 2], row_of, [0, 1, 0, 2, 0, 0])
        self.gives(LONG_TURN_ROW, row_of, LONG_COUNTS)

    def test_all_small_counts(self):
        for counts in brute.small_rows(0, 3, 4):
            self.gives(brute.row_of(counts), row_of, counts)
            self.gives(counts, rings, row_of(counts))

    def test_no_counts(self):
        for wrong in NOT_LISTS + [[]]:
            self.fails(NoCounts, row_of, wrong, index=0)
        for counts in ([0], [4, 1], [1, 0, 2, 3, 4], LONG_COUNTS):
            for place, wrong in spoilt(counts, NOT_INTEGERS + [-1, -BIG]):
                self.fails(NoCounts, row_of, wrong, index=place)

    def test_no_counts_of_the_first_wrong_item(self):
        self.fails(NoCounts, row_of, [1, -1, None, -2], index=1)
        self.fails(NoCounts, row_of, [1, 0, True, -2, "x"], index=2)


class SeriesTest(Case):

    def test_some(self):
        self.gives([1, 0], series, [0])
        self.gives([1, -4], series, [-4])
        self.gives([1, BIG], series, [BIG])
        self.gives([1, 1, 1, 1, 1], series, [1, 1, 1, 1])
        self.gives([1, 1, 2, 3, 5, 7, 11], series, [1, 3, 4, 7, 6, 12])
        self.gives([1, -1, 0, 0], series, [-1, -1, -1])

    def test_all_small_rows(self):
        for row in SMALL_ROWS:
            items = brute.series(row)
            parts = [n for n, item in enumerate(items) if item.denominator != 1]
            if parts:
                self.fails(NotWhole, series, row, n=parts[0])
            else:
                self.gives([int(item) for item in items], series, row)

    def test_not_whole_at_the_first_rest_and_at_none_below(self):
        self.fails(NotWhole, series, [1, 2, 3, 4], n=2)
        self.fails(NotWhole, series, [1, 1, 1, 3], n=4)
        self.fails(NotWhole, series, LONG_TURN_ROW[:-1] + [LONG_TURN_ROW[-1] + 1], n=300)
        self.gives([1, 2, 1], series, [2, -2])

    def test_counts_of_whole_rings(self):
        for counts in brute.small_rows(0, 2, 4):
            ways = [1, 0, 0, 0, 0]
            for n, count in enumerate(counts, start=1):
                for _ in range(count):
                    for things in range(n, 5):
                        ways[things] += ways[things - n]
            self.gives(ways, series, row_of(counts))

    def test_long_rows(self):
        self.gives([1] * 301, series, [1] * 300)
        self.gives([1, BIG] + [0] * 299, series, [-(-BIG) ** n for n in range(1, 301)])
        items = series(LONG_TURN_ROW)
        self.assertEqual(len(items), 301)
        self.gives(LONG_TURN_ROW, row_of_series, items)


class RowOfSeriesTest(Case):

    def test_some(self):
        self.gives([0], row_of_series, [1, 0])
        self.gives([-4], row_of_series, [1, -4])
        self.gives([BIG], row_of_series, [1, BIG])
        self.gives([1, 3, 4, 7, 6, 12], row_of_series, [1, 1, 2, 3, 5, 7, 11])
        self.gives([2, -2], row_of_series, [1, 2, 1])

    def test_all_small_series(self):
        for items in brute.small_rows(-2, 3, 4):
            row = row_of_series([1] + items)
            self.assertEqual(held(row), held([int(number) for number in row]))
            self.assertEqual(brute.series(row), [Fraction(item) for item in [1] + items])
            self.gives([1] + items, series, row)

    def test_long_series(self):
        self.gives([1] * 299, row_of_series, [1] * 300)
        items = [1] + LONG[1:]
        row = row_of_series(items)
        self.assertEqual(len(row), 299)
        self.gives(items, series, row)

    def test_no_series(self):
        for wrong in NOT_LISTS + [[], [1], [0], [5], [True]]:
            self.fails(NoSeries, row_of_series, wrong)
        for wrong in [[0, 1], [2, 1], [-1, 1], [BIG, 1], [0, 1, 2, 3], [2, 2, 2]]:
            self.fails(NoSeries, row_of_series, wrong)
        for items in ([1, 1], [1, 1, 2, 3, 5], [1] * 300):
            for _, wrong in spoilt(items, NOT_INTEGERS):
                self.fails(NoSeries, row_of_series, wrong)


class SumsAndProductsTest(Case):

    def test_sums(self):
        self.gives([3], added, [1], [2])
        self.gives([0, -3, 12], added, [1, 2, 3], [-1, -5, 9])
        self.gives([2 * number for number in LONG], added, LONG, LONG)

    def test_products(self):
        self.gives([2], multiplied, [1], [2])
        self.gives([-1, -10, 0], multiplied, [1, 2, 3], [-1, -5, 0])
        self.gives([number * number for number in LONG], multiplied, LONG, LONG)

    def test_as_far_as_both_go(self):
        self.gives([5], added, [1], [4, 5, 6])
        self.gives([5], added, [4, 5, 6], [1])
        self.gives([4, 10], multiplied, [1, 2], [4, 5, 6])
        self.gives([4, 10], multiplied, [4, 5, 6], [1, 2])

    def test_of_turn_rows_are_turn_rows(self):
        turn_rows = [brute.row_of(counts) for counts in brute.small_rows(0, 1, 4)]
        for one in turn_rows:
            for two in turn_rows:
                self.assertTrue(brute.is_turn_row(added(one, two)))
                self.assertTrue(brute.is_turn_row(multiplied(one, two)))


class EachTest(Case):

    def test_all_steps(self):
        for many in range(1, 13):
            row = [10 * n - 30 for n in range(1, many + 1)]
            for step in range(1, many + 1):
                self.gives([row[n - 1] for n in range(1, many + 1) if n % step == 0], each, row, step)

    def test_a_step_as_long_as_the_row(self):
        self.gives([8], each, [8], 1)
        self.gives([7], each, [1, 3, 4, 7], 4)
        self.gives([LONG[299]], each, LONG, 300)
        self.gives([LONG[149], LONG[299]], each, LONG, 150)
        self.gives([LONG[150]], each, LONG, 151)

    def test_no_step(self):
        for row in ([5], [1, 3, 4, 7], LONG):
            for wrong in NOT_INTEGERS + [0, -1, -len(row), len(row) + 1, 301, BIG, -BIG]:
                self.fails(NoStep, each, row, wrong)


class AtPowersTest(Case):

    def test_all_powers(self):
        row = [n - 40 for n in range(1, 301)]
        for power in range(1, 7):
            self.gives([n ** power - 40 for n in range(1, 301) if n ** power <= 300], at_powers, row, power)

    def test_where_a_row_just_reaches(self):
        for power in range(1, 7):
            row = list(range(100, 100 + 2 ** power))
            self.gives([row[0], row[-1]], at_powers, row, power)
            if power > 1:
                self.gives([row[0]], at_powers, row[:-1], power)
            self.gives([-BIG], at_powers, [-BIG], power)

    def test_no_power(self):
        for row in ([5], [1, 3, 4, 7], LONG):
            for wrong in NOT_INTEGERS + [0, -1, -6, 7, 300, BIG, -BIG]:
                self.fails(NoPower, at_powers, row, wrong)


class LeastFactorTest(Case):

    def test_some(self):
        self.gives(1, least_factor, [0])
        self.gives(1, least_factor, [BIG])
        self.gives(1, least_factor, [1, 3, 4, 7])
        self.gives(6, least_factor, [1, 2, 3, 4])
        self.gives(2, least_factor, [0, 1])
        self.gives(None, least_factor, [-1])
        self.gives(None, least_factor, [1, 0])
        self.gives(None, least_factor, [2, 0])
        self.gives(None, least_factor, [0, 1, 1, 0])

    def test_all_small_rows(self):
        for row in SMALL_ROWS:
            # Up to 4 things: what no factor up to 12 does, no other one does.
            fits = [f for f in range(1, 13) if brute.is_turn_row([f * number for number in row])]
            self.gives(fits[0] if fits else None, least_factor, row)

    def test_long_rows(self):
        self.gives(1, least_factor, LONG_TURN_ROW)
        self.gives(300, least_factor, [0] * 299 + [BIG // 300 * 300 + 1])
        self.gives(25, least_factor, [0] * 299 + [BIG // 300 * 300 + 12])
        how_many_divisors = [len(brute.divisors(n)) for n in range(1, 301)]
        self.gives(lcm(*range(1, 301)), least_factor, how_many_divisors)
        self.gives(None, least_factor, LONG_TURN_ROW[:-1] + [-1])


class LeastAboveTest(Case):

    def test_some(self):
        self.gives([0], least_above, [-5])
        self.gives([0, 0, 0], least_above, [-1, -BIG, 0])
        self.gives([BIG], least_above, [BIG])
        self.gives([1, 3, 4, 7], least_above, [1, 2, 3, 4])
        self.gives([2, 2, 2, 2], least_above, [2, 0, -1, 1])

    def test_all_small_rows(self):
        turn_rows = [row for row in brute.small_rows(0, 9, 4) if brute.is_turn_row(row)]
        for row in SMALL_ROWS:
            above = [turn for turn in turn_rows if all(high >= low for high, low in zip(turn, row))]
            self.gives(above[0], least_above, row)

    def test_turn_rows_are_their_own(self):
        self.gives(LONG_TURN_ROW, least_above, LONG_TURN_ROW)
        for counts in brute.small_rows(0, 2, 4):
            self.gives(row_of(counts), least_above, row_of(counts))

    def test_long_rows(self):
        for row in (LONG, [-number for number in LONG], [n * n * (-1) ** n for n in range(1, 301)]):
            above = least_above(row)
            new = brute.new_numbers(above)
            self.assertEqual(len(above), 300)
            for n in range(1, 301):
                self.assertEqual(new[n - 1] % n, 0)
                self.assertGreaterEqual(above[n - 1], row[n - 1])
                # With the numbers before it as they are, the next lower one is below 0 or below the row.
                self.assertGreaterEqual(new[n - 1], 0)
                self.assertTrue(new[n - 1] < n or above[n - 1] - n < row[n - 1], n)


class PassedOnTest(Case):
    """What is returned may be longer or greater than what is passed otherwise."""

    def test_long_answers_are_rows(self):
        items = series([1] * 300)
        self.gives(brute.new_numbers(items), new_numbers, items)
        self.gives(1, least_factor, items)
        self.gives(items, least_above, items)
        self.gives([1], each, items, 301)
        self.gives(brute.row_of(items), row_of, items)
        self.gives(items, rings, row_of(items))
        self.gives([1] * 302, series, items)

    def test_great_answers_are_rows(self):
        great = multiplied(LONG_TURN_ROW, multiplied(LONG_TURN_ROW, LONG_TURN_ROW))
        self.gives(None, first_bar, great)
        self.gives(great, row_of, rings(great))
        self.gives(great, least_above, [number - 1 if n == 300 else number for n, number in enumerate(great, start=1)])
        items = series(LONG_TURN_ROW)
        self.gives(brute.new_numbers(items), new_numbers, items)
