"""Promise [9]: what fits into the hole of a row."""

from backafter.errors import NoHole
from backafter.rows import first_bar, hole, multiplied, rings, series
from tests import brute
from tests.cases import BIG, NOT_INTEGERS, NOT_LISTS, Case, held, spoilt, with_item

LONG_COUNTS = [(BIG + n) // n if n % 3 else 0 for n in range(1, 301)]
LONG_TURN_ROW = brute.row_of(LONG_COUNTS)


def filled(items, number):
    return [number if item is None else item for item in items]


def fits(items, number):
    return brute.is_turn_row(filled(items, number))


class HoleTest(Case):

    def test_the_example(self):
        self.assertEqual(
            (rings([1, 3, 4, 7]), first_bar([1, 2, 3, 4]), hole([1, None, 4, 7])),
            ([1, 1, 1, 1], (2, "rest"), (3, 4, 7)),
        )

    def test_by_name(self):
        self.assertEqual(hole(items=[1, None, 4, 7]), (3, 4, 7))

    def test_without_an_end(self):
        self.gives((0, 1, None), hole, [None])
        self.gives((1, 2, None), hole, [1, None])
        self.gives((3, 4, None), hole, [1, 3, 4, None])
        self.gives((BIG, 2, None), hole, [BIG, None])

    def test_with_an_end(self):
        self.gives((0, 2, 6), hole, [None, 6])
        self.gives((1, 2, 7), hole, [None, 7])
        self.gives((1, 2, BIG), hole, [None, BIG])

    def test_one_number_alone(self):
        self.gives((0, 0, 0), hole, [None, 0])
        self.gives((1, 0, 1), hole, [None, 1])
        self.gives((3, 0, 3), hole, [1, None, 4, 3])
        self.gives((1, 0, 1), hole, [None, 3, 4, 7])

    def test_none(self):
        self.gives(None, hole, [None, -1])
        self.gives(None, hole, [1, None, 4, -1])
        self.gives(None, hole, [-1, None])
        self.gives(None, hole, [1, 2, None])
        self.gives(None, hole, [2, 0, None])

    def test_none_where_rests_do_not_go_together(self):
        # 2 asks for an even number, 6 for an odd one; then 2 and 6 agree, and 3 and 6 do not.
        self.gives(None, hole, [None, 200, 300, 200, 500, 503])
        self.gives(None, hole, [None, 200, 300, 200, 500, 502])
        self.assertIsNotNone(hole([None, 200, 300, 200, 500, 506]))

    def test_the_kinds_in_the_answer(self):
        for items in ([None], [None, 6], [1, None, 4, 7]):
            answer = hole(items)
            self.assertEqual(len(answer), 3)
            self.assertIs(type(answer), tuple)
            self.assertIs(type(answer[1]), int)

    def test_all_small_rows(self):
        for length, least, most in ((1, 0, 0), (2, -3, 6), (3, -2, 5), (4, -1, 5)):
            for others in brute.small_rows(least, most, length - 1):
                for place in range(length):
                    self.compare(others[:place] + [None] + others[place:])

    def test_longer_rows(self):
        for shift in range(60):
            for place in range(6):
                self.compare(with_item([0, 2 + shift // 30 * 2, 3, 2, 5, 5 + shift], place, None))

    def compare(self, items):
        # No number here is above 70, and a step of up to 6 things is at most 60.
        among = range(-70, 200)
        good = [number for number in among if fits(items, number)]
        answer = hole(items)
        if answer is None:
            self.assertEqual(good, [], items)
            return
        first, step, last = answer
        if last == first:
            self.assertEqual((step, good), (0, [first]), items)
        else:
            self.assertGreaterEqual(step, 1, items)
            end = 200 if last is None else last + 1
            self.assertEqual(good, list(range(first, end, step)), items)
            self.assertTrue(last is None or last == good[-1], items)

    def test_long_rows(self):
        for place in (0, 1, 2, 3, 99, 149, 150, 151, 298, 299):
            items = with_item(LONG_TURN_ROW, place, None)
            before = held(items)
            first, step, last = hole(items)
            self.assertEqual(held(items), before)
            self.assertEqual(last is None, place + 1 > 150, place)
            self.assertTrue(fits(items, first), place)
            if step == 0:
                self.assertEqual((first, last), (LONG_TURN_ROW[place], first))
            else:
                self.assertEqual((LONG_TURN_ROW[place] - first) % step, 0)
                self.assertTrue(fits(items, first + step), place)
                self.assertFalse(fits(items, first - step), place)
                self.assertFalse(any(fits(items, first + k) for k in range(1, min(step, 40))), place)
            if last is not None:
                self.assertTrue(first <= LONG_TURN_ROW[place] <= last)
                self.assertTrue(fits(items, last), place)
                self.assertFalse(fits(items, last + step) and step > 0, place)

    def test_long_rows_at_the_first_and_at_the_last_place(self):
        self.gives((1, 0, 1), hole, [None] + brute.row_of([1] * 300)[1:])
        self.gives((300, 300, None), hole, with_item(brute.row_of([0] * 149 + [2] + [0] * 150), 299, None))
        self.gives(None, hole, [None] + LONG_TURN_ROW[1:299] + [LONG_TURN_ROW[299] + 1])

    def test_long_and_great_answers_may_be_passed_on(self):
        self.gives((1, 301, None), hole, with_item(series([1] * 300), 300, None))
        great = multiplied(LONG_TURN_ROW, multiplied(LONG_TURN_ROW, LONG_TURN_ROW))
        least = great[299] - brute.new_numbers(great)[299]
        self.gives((least, 300, None), hole, with_item(great, 299, None))

    def test_no_hole(self):
        for wrong in NOT_LISTS:
            self.fails(NoHole, hole, wrong)
        for wrong in ([], [1], [1, 3, 4, 7], [None, None], [1, None, None], [None, 1, None], [None] * 300, [0] * 300):
            self.fails(NoHole, hole, wrong)

    def test_no_hole_with_a_wrong_item(self):
        not_holes = [item for item in NOT_INTEGERS if item is not None]
        for items in ([1, 3], [1, 3, 4, 7], LONG_TURN_ROW):
            for at in (0, len(items) - 1):
                for place, wrong in spoilt(with_item(items, at, None), not_holes):
                    self.fails(NoHole, hole, wrong)

    def test_no_hole_comes_before_what_the_row_is(self):
        self.fails(NoHole, hole, [-1, None, "x"])
        self.fails(NoHole, hole, [1, 2, None, True])
