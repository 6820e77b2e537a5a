"""Promise [15]: tables, the walks on them that come back, and their rings."""

from itertools import product

from backafter import tables
from backafter.errors import NoMany, NoNumber, NoTable
from backafter.rows import first_bar, rings
from backafter.shuffles import back_row
from backafter.tables import walk_rings, walk_row
from tests import brute
from tests.cases import BIG, NOT_INTEGERS, NOT_TUPLES, Case, spoilt, with_item

MOST = 10 ** 6
TWO_PLACES = [(numbers[:2], numbers[2:]) for numbers in product(range(3), repeat=4)]
THREE_PLACES = [
    (numbers[:3], numbers[3:6], numbers[6:]) for numbers in product(range(2), repeat=9) if sum(numbers) <= 5
]
MIXED = ((1, 2, 0), (0, 0, 3), (4, 0, 5))
SIX = tuple(tuple((7 * one + 11 * two) % 13 for two in range(6)) for one in range(6))
FIBONACCI = ((1, 1), (1, 0))


def of_all(number, places):
    """Return a table where as many steps lead from each place to each."""
    return ((number,) * places,) * places


WRONG_TABLES = NOT_TUPLES + [
    (), ((),), ((), ()), ((1, 2),), ((1,), (1,)), ((1, 2), (3,)), ((1,), (2, 3)), ((1, 2), (3, 4, 5)), (1,), (0, 1),
    ((1, 2, 3), (4, 5, 6)), ((1, 2), (3, 4), (5, 6)), of_all(0, 7), of_all(0, 300), ((0,) * 6,) * 7, ((0,) * 7,) * 6,
    ((1, 2), [3, 4]), ([1, 2], (3, 4)), [(1, 2), (3, 4)], [[1, 2], [3, 4]], ([1],), [(1,)], [[1]], ((1,), 1),
    ("1",), "1", ("12", "34"), (b"1",), ({1: 1},), ({1},), (range(1),), (((1,),),), (None,), (None, None), (1, (1, 1)),
    ((-1,),), ((MOST + 1,),), ((BIG,),), ((True,),), ((1, 2), (3, False)), ((1.0,),), (("1",),), ((None,),), (True,),
] + [
    with_item(table, place, steps)
    for table in [((1,),), ((1, 2), (3, 4)), SIX] for place in sorted({0, len(table) // 2, len(table) - 1})
    for _, steps in spoilt(table[place], NOT_INTEGERS + [-1, MOST + 1, BIG, -BIG])
] + [
    with_item(table, place, wrong)
    for table in [((1, 2), (3, 4)), SIX] for place in (0, len(table) - 1)
    for wrong in NOT_TUPLES + [(), table[0][1:], table[0] + (0,), (1,) * 7]
]


class InterfaceTest(Case):

    def test_each_name_is_defined_in_tables(self):
        for name in ["walk_row", "walk_rings"]:
            self.assertEqual(getattr(tables, name).__module__, "backafter.tables")

    def test_arguments_may_be_passed_by_name(self):
        self.assertEqual(walk_row(many=3, table=((2,),)), [2, 4, 8])
        self.assertEqual(walk_rings(number=3, table=((2,),)), 2)

    def test_returned_lists_are_new(self):
        self.gives_new_lists(walk_row, ((2,),), 5)
        self.gives_new_lists(walk_row, FIBONACCI, 1)


class WrongArgumentsTest(Case):

    def test_no_table(self):
        for wrong in WRONG_TABLES:
            self.fails(NoTable, walk_row, wrong, 3)
            self.fails(NoTable, walk_rings, wrong, 3)

    def test_no_table_comes_first(self):
        for wrong in [None, (), [(1,)], ((1, 2),), ((True,),), ((MOST + 1,),), of_all(1, 7)]:
            for number in NOT_INTEGERS + [0, 301, -1]:
                self.fails(NoTable, walk_row, wrong, number)
                self.fails(NoTable, walk_rings, wrong, number)

    def test_no_many_and_no_number(self):
        for table in [((0,),), ((2,),), MIXED, SIX]:
            for wrong in NOT_INTEGERS + [0, -1, -300, 301, BIG, -BIG]:
                self.fails(NoMany, walk_row, table, wrong)
                self.fails(NoNumber, walk_rings, table, wrong)


class SmallTablesTest(Case):

    def test_some(self):
        self.gives([0, 0, 0], walk_row, ((0,),), 3)
        self.gives([1, 1, 1], walk_row, ((1,),), 3)
        self.gives([0, 2, 0, 2], walk_row, ((0, 1), (1, 0)), 4)
        self.gives([1, 3, 4, 7, 11, 18], walk_row, FIBONACCI, 6)
        self.gives([6, 26, 198], walk_row, MIXED, 3)
        self.gives([0, 0, 72, 0, 0, 1728], walk_row, ((0, 2, 0), (0, 0, 3), (4, 0, 0)), 6)
        self.gives([0, 0, 0], walk_row, ((0, 5, 6), (0, 0, 7), (0, 0, 0)), 3)

    def test_some_rings(self):
        self.gives([1, 1, 1, 1, 2, 2], list, [walk_rings(FIBONACCI, number) for number in range(1, 7)])
        self.gives([2, 1, 2, 3, 6, 9], list, [walk_rings(((2,),), number) for number in range(1, 7)])
        self.gives([0, 0, 24, 0, 0, 276], list,
                   [walk_rings(((0, 2, 0), (0, 0, 3), (4, 0, 0)), number) for number in range(1, 7)])

    def test_all_walks_and_rings(self):
        for table in [((number,),) for number in range(4)] + TWO_PLACES + THREE_PLACES:
            walks = [len(brute.walks(table, many)) for many in range(1, 5)]
            for many in range(1, 5):
                self.gives(walks[:many], walk_row, table, many)
                self.gives(len(brute.walk_rings(table, many)), walk_rings, table, many)

    def test_some_longer_walks(self):
        for table in [((2,),), FIBONACCI, ((1, 2), (1, 0)), ((0, 1, 1), (1, 0, 1), (1, 1, 0))]:
            for many in (5, 6, 7):
                self.assertEqual(len(brute.walks(table, many)), walk_row(table, many)[-1])
                self.gives(len(brute.walk_rings(table, many)), walk_rings, table, many)

    def test_a_step_from_each_place_is_a_shuffle(self):
        for shuffle in [(0,), (1, 0), (2, 0, 1), (3, 4, 0, 1, 2), (1, 2, 3, 4, 5, 0), (1, 0, 3, 4, 2, 5)]:
            table = tuple(tuple(int(to == place) for place in range(len(shuffle))) for to in shuffle)
            self.gives(back_row(shuffle, 40), walk_row, table, 40)


class GreatTablesTest(Case):

    def test_as_many_steps_everywhere(self):
        for places in range(1, 7):
            for number in (1, 2, 999999, MOST):
                answer = [(number * places) ** n for n in range(1, 301)]
                self.gives(answer, walk_row, of_all(number, places), 300)
                found = rings(answer)
                for n in (1, 2, 299, 300):
                    self.gives(found[n - 1], walk_rings, of_all(number, places), n)

    def test_thousands_of_digits(self):
        self.assertEqual(walk_row(of_all(MOST, 6), 300)[299], 6 ** 300 * 10 ** 1800)
        self.assertGreater(walk_rings(of_all(MOST, 6), 300), 10 ** 2030)

    def test_two_places(self):
        # The sum of the powers of two numbers follows from their sum and their product.
        for one, two, three, four in [(1, 1, 1, 0), (MOST, 1, 2, MOST), (3, MOST, MOST, 5), (0, 7, 8, 0), (0, 9, 0, 0)]:
            trace, product_of_both = one + four, one * four - two * three
            sums = [2, trace]
            while len(sums) <= 300:
                sums.append(trace * sums[-1] - product_of_both * sums[-2])
            self.gives(sums[1:], walk_row, ((one, two), (three, four)), 300)

    def test_no_way_back(self):
        straight = [5, 0, MOST, 17, 1, 999983]
        table = tuple(tuple(straight[one] if one == two else MOST if one < two else 0 for two in range(6))
                      for one in range(6))
        answer = [sum(number ** n for number in straight) for n in range(1, 301)]
        self.gives(answer, walk_row, table, 300)
        self.gives(answer, walk_row, tuple(zip(*table)), 300)
        self.gives(rings(answer)[299], walk_rings, table, 300)

    def test_rows_are_turn_rows_and_these_are_their_rings(self):
        for table in [MIXED, SIX, FIBONACCI, ((0,),)]:
            row = walk_row(table, 300)
            self.assertIsNone(first_bar(row))
            found = rings(row)
            for number in (1, 2, 3, 4, 6, 30, 210, 256, 299, 300):
                self.gives(found[number - 1], walk_rings, table, number)
                self.gives(row[:number], walk_row, table, number)
