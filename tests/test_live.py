"""Promises [16] and [17]: a live row."""

from itertools import product

from backafter import live as module
from backafter.errors import Barred, NoCount, NoNumber, NothingToUndo
from backafter.live import Live
from tests import brute
from tests.cases import BIG, NAN, NOT_INTEGERS, NOT_LISTS, NOT_TUPLES, Case, held

# Rings that are few, many, and of hundreds of digits.
SPARSE = [1 if n in (1, 7, 60, 150, 300) else 0 for n in range(1, 301)]
DENSE = [n * n % 11 + 1 for n in range(1, 301)]
GREAT = [10 ** 300 + n for n in range(1, 61)]


def live_of(counts):
    live = Live()
    for count in counts:
        live.lay(count)
    return live


def coming(row):
    """Return what may come behind a row, found by trying one number after another."""
    fitting = [number for number in range(200) if brute.is_turn_row(row + [number])]
    return fitting[0], fitting[1] - fitting[0]


class LiveCase(Case):

    def shows(self, row, live):
        """All that a live row tells is that of this row."""
        counts = [new // n for n, new in enumerate(brute.new_numbers(row), start=1)]
        next_number = brute.row_of(counts + [0])[-1]
        step = len(row) + 1
        self.gives(row, live.row)
        self.gives(counts, live.rings)
        self.gives(len(row), len, live)
        self.gives((next_number, step), live.coming)
        self.assertEqual(held(live.things), held(sum(n * count for n, count in enumerate(counts, start=1))))
        for number in range(next_number - 2 * step, next_number + 3 * step):
            may_come = number >= next_number and (number - next_number) % step == 0
            self.assertIs(number in live, may_come)
            self.assertIs(number not in live, not may_come)

    def fails_and_keeps(self, kind, live, call, *args, **fields):
        """The call raises this error, and the live row is as it was."""
        before = live.row()
        self.fails(kind, call, *args, **fields)
        self.shows(before, live)


class InterfaceTest(LiveCase):

    def test_it_is_defined_in_live(self):
        self.assertEqual(Live.__module__, "backafter.live")
        self.assertEqual(module.Live.__name__, "Live")
        for name in ["tell", "lay", "undo", "coming", "row", "rings", "things", "__len__", "__contains__"]:
            self.assertIn(name, vars(Live))

    def test_things_is_a_property_that_cannot_be_set(self):
        live = Live()
        self.assertIsInstance(vars(Live)["things"], property)
        with self.assertRaises(AttributeError):
            live.things = 5
        self.shows([], live)

    def test_arguments_may_be_passed_by_name(self):
        live = Live()
        self.assertIsNone(live.tell(number=2))
        self.assertIsNone(live.lay(count=3))
        self.shows([2, 8], live)

    def test_calls_return_none(self):
        live = Live()
        for call, args in [(live.tell, (1,)), (live.lay, (0,)), (live.undo, ()), (live.undo, ())]:
            self.gives(None, call, *args)


class BeginningTest(LiveCase):

    def test_a_row_without_numbers(self):
        live = Live()
        self.gives([], live.row)
        self.gives([], live.rings)
        self.gives((0, 1), live.coming)
        self.gives(0, len, live)
        self.assertEqual(held(live.things), held(0))
        self.assertIn(0, live)
        self.assertIn(10 ** 400, live)
        self.assertNotIn(-1, live)

    def test_nothing_to_undo(self):
        live = Live()
        for _ in range(3):
            self.fails_and_keeps(NothingToUndo, live, live.undo)


class TellTest(LiveCase):

    def test_the_row_of_the_document(self):
        live = Live()
        for number in [1, 3, 4, 7]:
            live.tell(number)
        self.shows([1, 3, 4, 7], live)
        self.assertEqual(live.rings(), [1, 1, 1, 1])
        self.assertEqual(live.things, 10)
        self.assertEqual(live.coming(), (1, 5))

    def test_every_small_row(self):
        for numbers in product(range(-2, 6), repeat=4):
            live = Live()
            row = []
            for n, number in enumerate(numbers, start=1):
                if brute.is_turn_row(row + [number]):
                    live.tell(number)
                    row.append(number)
                else:
                    self.fails(Barred, live.tell, number, n=n)
                    break
            self.assertEqual(live.row(), row)

    def test_what_is_told_behind_each_small_row(self):
        for counts in product(range(3), repeat=5):
            live = live_of(counts)
            row = brute.row_of(counts)
            self.assertEqual(live.row(), row)
            self.assertEqual(live.coming(), coming(row))
            for number in range(-3, 16):
                if brute.is_turn_row(row + [number]):
                    live.tell(number)
                    self.assertEqual(live.row(), row + [number])
                    live.undo()
                else:
                    self.fails(Barred, live.tell, number, n=6)
                self.assertEqual(live.row(), row)

    def test_barred_changes_nothing(self):
        live = Live()
        for n, (number, wrong) in enumerate([(2, -1), (2, 3), (5, 4), (2, 1), (7, 3), (11, 4)], start=1):
            self.fails_and_keeps(Barred, live, live.tell, wrong, n=n)
            self.fails_and_keeps(Barred, live, live.tell, -10 ** 300, n=n)
            live.tell(number)
        self.shows([2, 2, 5, 2, 7, 11], live)

    def test_no_number(self):
        for live in (Live(), live_of([1]), live_of([1, 0, 2])):
            for wrong in NOT_INTEGERS + NOT_LISTS + NOT_TUPLES:
                if not isinstance(wrong, int) or isinstance(wrong, bool):
                    self.fails_and_keeps(NoNumber, live, live.tell, wrong)

    def test_integers_that_are_equal_to_others(self):
        # True and 1.0 are equal to 1, which may come.
        live = Live()
        self.fails_and_keeps(NoNumber, live, live.tell, True)
        self.fails_and_keeps(NoNumber, live, live.tell, 1.0)
        live.tell(1)
        self.shows([1], live)

    def test_great_numbers(self):
        live = Live()
        row = brute.row_of(GREAT)
        for n, number in enumerate(row, start=1):
            self.fails(Barred, live.tell, number - n * (GREAT[n - 1] + 1), n=n)
            if n > 1:
                self.fails(Barred, live.tell, number + 1, n=n)
                self.fails(Barred, live.tell, number + n - 1, n=n)
            self.assertIn(number, live)
            live.tell(number)
        self.assertEqual(live.row(), row)
        self.assertEqual(live.rings(), GREAT)


class LayTest(LiveCase):

    def test_some(self):
        live = Live()
        row = []
        for counts in ([2], [2, 0], [2, 0, 1], [2, 0, 1, 3], [2, 0, 1, 3, 0], [2, 0, 1, 3, 0, 1]):
            live.lay(counts[-1])
            row = brute.row_of(counts)
            self.shows(row, live)
        self.assertEqual(row, [2, 2, 5, 14, 2, 11])

    def test_no_count(self):
        for live in (Live(), live_of([1]), live_of([1, 0, 2])):
            for wrong in NOT_INTEGERS + [-1, -2, -300, -BIG, NAN]:
                self.fails_and_keeps(NoCount, live, live.lay, wrong)

    def test_rows_of_300_numbers(self):
        for counts in (SPARSE, DENSE, [0] * 300, [BIG] * 300):
            row = brute.row_of(counts)
            told = Live()
            laid = live_of(counts)
            for number in row:
                told.tell(number)
            for live in (told, laid):
                self.assertEqual(live.row(), row)
                self.assertEqual(live.rings(), counts)
                self.assertEqual(len(live), 300)
                self.assertEqual(live.things, sum(n * count for n, count in enumerate(counts, start=1)))
                # 301 is a prime number, so the rings of one, seven and 43 things alone are back.
                self.assertEqual(live.coming(), (counts[0] + 7 * counts[6] + 43 * counts[42], 301))


class UndoTest(LiveCase):

    def test_back_to_the_beginning(self):
        live = Live()
        calls = [(live.tell, 1), (live.lay, 2), (live.tell, 4), (live.lay, 0), (live.tell, 6), (live.lay, 7)]
        rows = []
        for call, argument in calls:
            rows.append(live.row())
            call(argument)
        for row in reversed(rows):
            self.gives(None, live.undo)
            self.shows(row, live)
        self.fails_and_keeps(NothingToUndo, live, live.undo)
        self.fails_and_keeps(NothingToUndo, live, live.undo)

    def test_calls_that_raised_errors_are_not_taken_back(self):
        live = live_of([1, 1])
        self.fails(Barred, live.tell, 3, n=3)
        self.fails(NoNumber, live.tell, "4")
        self.fails(NoCount, live.lay, -1)
        live.undo()
        self.shows([1], live)
        self.fails(Barred, live.tell, 2, n=2)
        live.undo()
        self.shows([], live)
        self.fails(NothingToUndo, live.undo)

    def test_another_number_behind_an_undo(self):
        live = live_of([1, 1, 1])
        live.undo()
        live.undo()
        live.tell(5)
        self.shows([1, 5], live)
        live.undo()
        live.lay(0)
        self.shows([1, 1], live)
        live.undo()
        live.undo()
        live.tell(0)
        self.shows([0], live)
        live.undo()
        self.fails(NothingToUndo, live.undo)
        live.tell(3)
        self.shows([3], live)

    def test_hundreds_of_calls(self):
        live = Live()
        for n in range(190):
            live.lay(n % 3)
        for n in range(189, -1, -1):
            live.undo()
            self.assertEqual(live.rings(), [k % 3 for k in range(n)])
        self.fails_and_keeps(NothingToUndo, live, live.undo)


class AskedTest(LiveCase):

    def test_values_of_other_kinds_are_not_in_it(self):
        for live in (Live(), live_of([1]), live_of([1, 0])):
            for value in NOT_INTEGERS + NOT_LISTS + NOT_TUPLES:
                if not isinstance(value, int) or isinstance(value, bool):
                    self.assertIs(value in live, False)
            self.assertIs(live.coming()[0] in live, True)

    def test_true_and_false_are_not_in_it(self):
        live = Live()
        self.assertIs(0 in live, True)
        self.assertIs(1 in live, True)
        self.assertIs(False in live, False)
        self.assertIs(True in live, False)
        self.assertIs(1.0 in live, False)

    def test_great_numbers_in_it(self):
        live = live_of([10 ** 400, 10 ** 400])
        self.assertIs(10 ** 400 in live, True)
        self.assertIs(10 ** 400 - 3 in live, False)
        self.assertIs(10 ** 400 + 1 in live, False)
        self.assertIs(10 ** 400 + 3 * 10 ** 500 in live, True)
        self.assertIs(-10 ** 400 in live, False)

    def test_returned_lists_are_new(self):
        live = live_of([1, 1, 1])
        for call in (live.row, live.rings):
            self.gives_new_lists(call)
        empty = Live()
        for call in (empty.row, empty.rings):
            call().append(5)
        self.shows([], empty)
        self.shows([1, 3, 4], live)
        row = live.row()
        live.lay(1)
        live.undo()
        live.undo()
        self.assertEqual(row, [1, 3, 4])

    def test_questions_change_nothing(self):
        live = live_of([1, 2])
        for _ in range(3):
            self.shows([1, 5], live)
        live.undo()
        self.shows([1], live)

    def test_two_live_rows_by_turns(self):
        one, two = Live(), Live()
        for n in range(1, 21):
            one.lay(1)
            two.tell(0)
            if n % 3 == 0:
                two.undo()
                self.fails(Barred, two.tell, -1, n=n - n // 3 + 1)
        self.shows(brute.row_of([1] * 20), one)
        self.shows([0] * 14, two)
        for _ in range(14):
            two.undo()
        self.fails_and_keeps(NothingToUndo, two, two.undo)
        self.shows(brute.row_of([1] * 20), one)
