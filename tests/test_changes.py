"""Promise [14]: polynomials in the place of n, and whether turn rows stay such through them."""

from itertools import product

from backafter import changes
from backafter.changes import keeps, spoiler, through
from backafter.errors import NoChange, NoRow, NotThere
from backafter.rows import at_powers, each, first_bar, row_of
from tests import brute
from tests.cases import BIG, NOT_INTEGERS, NOT_LISTS, NOT_TUPLES, Case, spoilt

MOST = 10 ** 6
ROW = [2, -5, BIG, 0, 7, -BIG, 1, 8, 9, 10, 11, 12]
LONG = list(range(1, 301))
SMALL = [change for length in range(1, 5) for change in product(range(3), repeat=length) if any(change)]
SINGLE = [
    (0,) * place + (number,) + (0,) * behind
    for place in range(7) for behind in range(7 - place) for number in (1, 2, 7, 30030, MOST)
]

WRONG_CHANGES = NOT_TUPLES + [
    (), (0,), (0, 0), (0,) * 7, (1,) * 8, (0,) * 8, (0,) * 7 + (1,), (1,) + (0,) * 7, (1,) * 300, (-1,), (MOST + 1,),
    [1], [0, 1], [1] * 7, ([1],), ((1,),), (BIG,), (0, -BIG), (1, -1), (True,), (0, True), (False, 1), ("1",), "1", "x",
    (1.0,), (0, 1.0), (None,),
] + [
    change for values in ((1,), (0, 1), (1, 2, 3), (MOST,) * 7)
    for _, change in spoilt(values, NOT_INTEGERS + [-1, MOST + 1, BIG, -BIG])
]


class InterfaceTest(Case):

    def test_each_name_is_defined_in_changes(self):
        for name in ["through", "keeps", "spoiler"]:
            self.assertEqual(getattr(changes, name).__module__, "backafter.changes")

    def test_arguments_may_be_passed_by_name(self):
        self.assertEqual(through(change=(0, 2), row=[1, 3, 4, 7]), [3, 7])
        self.assertEqual(keeps(change=(0, 2)), True)
        self.assertEqual(spoiler(change=(1, 1)), (2, 2))

    def test_returned_lists_are_new(self):
        self.gives_new_lists(through, [1, 3, 4, 7], (0, 1))
        self.gives_new_lists(through, [1, 3, 4, 7], (2,))
        self.gives_new_lists(through, [5], (1,))


class NoChangeTest(Case):

    def test_of_each(self):
        for wrong in WRONG_CHANGES:
            self.fails(NoChange, keeps, wrong)
            self.fails(NoChange, spoiler, wrong)
            self.fails(NoChange, through, ROW, wrong)

    def test_no_row_comes_first(self):
        for wrong in NOT_LISTS + [[]] + [row for _, row in spoilt([1, 3, 4, 7], NOT_INTEGERS)]:
            self.fails(NoRow, through, wrong, (0, 1))
            self.fails(NoRow, through, wrong, (0,))
            self.fails(NoRow, through, wrong, (300,))

    def test_comes_before_not_there(self):
        for wrong in [(300, -1), (2, 2, 2, MOST + 1), (0,), (2,) + (0,) * 7, (300, True), [300]]:
            self.fails(NoChange, through, [1], wrong)

    def test_edges(self):
        for change in [(MOST,), (MOST,) * 7, (0,) * 6 + (MOST,), (0,) * 6 + (1,), (1,), (0, 1)]:
            self.assertEqual(keeps(change), change != (MOST,) * 7)
            self.assertEqual(spoiler(change) is None, change != (MOST,) * 7)
        self.fails(NotThere, through, LONG, (MOST,) * 7)


class ThroughTest(Case):

    def test_some(self):
        self.gives(ROW, through, ROW, (0, 1))
        self.gives([-5, 0, -BIG, 8, 10, 12], through, ROW, (0, 2))
        self.gives([2, 0, 9], through, ROW, (0, 0, 1))
        self.gives(ROW[1:], through, ROW, (1, 1))
        self.gives([BIG, 1], through, ROW, (1, 1, 1))
        self.gives([12], through, ROW, (11, 1))
        self.gives([7], through, ROW, (0, 1, 1, 0, 1, 1, 1))

    def test_a_first_integer_alone(self):
        for behind in range(7):
            self.gives([2] * 12, through, ROW, (1,) + (0,) * behind)
            self.gives([BIG] * 12, through, ROW, (3,) + (0,) * behind)
            self.gives([12] * 12, through, ROW, (12,) + (0,) * behind)
            self.fails(NotThere, through, ROW, (13,) + (0,) * behind)
            self.fails(NotThere, through, ROW, (MOST,) + (0,) * behind)
        self.gives([300] * 300, through, LONG, (300,))
        self.gives([-4], through, [-4], (1,))

    def test_small_changes_and_short_rows(self):
        for length in range(1, 13):
            for change in SMALL:
                found = brute.through(ROW[:length], change)
                if found:
                    self.gives(found, through, ROW[:length], change)
                else:
                    self.fails(NotThere, through, ROW[:length], change)

    def test_long_rows(self):
        for change in SMALL + [(299, 1), (0, 300), (294, 1, 1, 1, 1, 1, 1), (0, 0, 0, 0, 0, 0, 4), (7, 0, 3)]:
            self.gives(brute.through(LONG, change), through, LONG, change)
        for change in [(300, 1), (0, 301), (295, 1, 1, 1, 1, 1, 1), (0, 0, 0, 0, 0, 0, 301), (301,)]:
            self.fails(NotThere, through, LONG, change)

    def test_steps_and_powers(self):
        for number in range(1, 7):
            self.gives(each(LONG, number), through, LONG, (0, number))
            self.gives(at_powers(LONG, number), through, LONG, (0,) * number + (1,))


class KeepsTest(Case):

    def test_just_those_with_one_integer(self):
        for change in SINGLE:
            self.gives(True, keeps, change)
            self.gives(None, spoiler, change)
        for change in SMALL:
            one = len([number for number in change if number]) == 1
            self.gives(one, keeps, change)
            self.assertEqual(spoiler(change) is None, one, change)

    def test_turn_rows_stay_such(self):
        rows = [row_of([0] * (length - 1) + [1] + [0] * (300 - length)) for length in range(1, 25)]
        rows.append(row_of([(7 * n) % 5 for n in range(300)]))
        for change in SINGLE:
            for row in rows:
                if sum(change) <= 300:
                    self.assertIsNone(first_bar(through(row, change)))

    def test_any_two_integers(self):
        for one in range(7):
            for two in range(one):
                change = [0] * 7
                change[one], change[two] = MOST, 1
                self.gives(False, keeps, tuple(change))


# Changes, with the length of the shortest ring that shows that they do not keep turn rows, and the n at which it does.
SPOILED = [
    ((1, 1), 2, 2), ((42363, 6, 12, 560285), 2, 2), ((1, 2), 3, 2), ((1000000, 1), 3, 2), ((32, 0, 40, 0), 3, 3),
    ((510510, 510510), 4, 2), ((101410, 513503, 0, 0, 160502, 308525), 4, 4), ((64, 0, 60, 0, 36, 0), 5, 5),
    ((1,) * 7, 7, 2), ((MOST,) * 7, 7, 2), ((300, 0, 0, 0, 161490, 0, 540), 7, 7),
    ((20, 244887, 0, 783023, 320269, 0), 8, 8), ((0, 14, 503564, 278376, 0, 513484, 28), 9, 7),
    ((465051, 0, 34, 954842, 14, 28), 9, 8), ((258350, 315000), 11, 10),
    ((982800, 0, 277200, 680400, 0, 252000), 13, 12), ((294056, 617305, 0, 0, 16), 16, 16),
    ((0, 720720, 720720, 0, 0, 0, 0), 17, 16), ((1, 510510), 19, 2),
    ((50400, 0, 378000, 75600, 176400, 50400), 19, 18), ((0, 0, 175032, 0, 0, 0, 741708), 25, 6),
    ((5, 495198, 432461, 945762, 19, 898392), 25, 15), ((51840, 10368, 0, 72576, 77760), 25, 20),
    ((9, 840, 2520), 27, 6), ((666324, 690760, 72, 0), 27, 18), ((321669, 103950, 0, 353430, 62370), 29, 28),
    ((16, 0, 600600, 960960), 31, 30), ((16, 0, 5460), 32, 4), ((922320, 485100, 7560, 0), 32, 8),
    ((41, 1, 1), 41, 40), ((813888, 0, 103680), 47, 21), ((769230, 0, 0, 0, 706860), 49, 2),
    ((45360, 0, 141120, 0, 597240, 0, 0), 49, 3), ((619080, 0, 0, 0, 0, 0, 23100), 71, 26),
    ((330740, 0, 757520), 73, 14), ((939302, 0, 1020, 0, 360, 0, 0), 83, 40),
    ((47809, 0, 0, 0, 0, 0, 960960), 197, 30), ((296473, 0, 0, 0, 0, 0, 691320), 223, 19),
]


class SpoilerTest(Case):

    def test_near_and_far_ones(self):
        for change, length, n in SPOILED:
            self.gives((length, n), spoiler, change)
            # No shorter ring shows it, whether or not its length is a prime or a power of one.
            self.assertEqual(brute.spoiler(change, length), (length, n))

    def test_all_small_changes(self):
        for change in SMALL:
            if not keeps(change):
                self.gives(brute.spoiler(change, 40), spoiler, change)

    def test_products_of_small_primes(self):
        for factors in product((0, 1, 2, 6, 30, 60, 210, 2310), repeat=3):
            if len([factor for factor in factors if factor]) > 1:
                self.gives(brute.spoiler(factors, 100), spoiler, factors)

    def test_the_row_of_the_ring_is_barred_there(self):
        for change, length, n in SPOILED:
            if brute.number_of(change, n) <= 3000:
                row = row_of([0] * (length - 1) + [1] + [0] * (3000 - length))
                self.assertEqual(first_bar(through(row, change))[0], n)
