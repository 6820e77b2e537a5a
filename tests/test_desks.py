"""Promise [19]: a desk, which reads orders."""

import random
from time import process_time

from backafter import changes, desks, rows, rules, tables
from backafter.desks import Desk
from backafter.errors import Barred, NoOrder, NothingToUndo, NotWhole, RowError
from backafter.texts import row_text, rule_text
from tests import brute
from tests.cases import Case, held
from tests.test_texts import (
    NOT_STRINGS, RULES, ROWS, WRONG_NUMBERS, WRONG_TERM_TEXTS, plain_row, plain_rule, slips,
)

PLAIN = ["bar", "new", "rings", "factor", "above", "series", "ever"]
# What the desk answers at the beginning.
FIRST = {
    "bar": "none", "new": "1", "rings": "1", "factor": "1", "above": "1", "series": "1, 1", "ever": "none",
    "told 1": "1", "told 3": "1, 1, 1", "turns 1": "1", "turns 2": "0", "turns 300": "0", "keeps 0 1": "yes",
    "keeps 1 0 1": "2 2", "walks 3": "3", "walks 1 1 1 0": "1",
}
WRONG_ORDERS = [
    "", " ", "  ", "\n", "\t", ",", "1", "1, 3, 4, 7", "1 * 1 ^ n", "none", "yes", "undone", "help", "desk", "order",
    "row", "row ", "row  1", " row 1", "Row 1", "ROW 1", "row1", "row,1", "row 1 ", "row 1\n", "row\t1", "row\n1",
    "rows 1", "row 1 2", "row 1,2", "row 1, ", "row x", "row none", "row 01", "row +1", "row -0", "row (-1)",
    "row 1 * 1 ^ n", "row row 1", "rule", "rule ",
    "rule  1 * 1 ^ n", " rule 1 * 1 ^ n", "Rule 1 * 1 ^ n", "rule 1 * 1 ^ n ", "rules 1",
    "rule 1", "rule 1, 2", "rule 1 * 1 ^ n, 1 * 1 ^ n", "rule -1 * 1 ^ n", "rule rule 1 * 1 ^ n", "rule\t1 * 1 ^ n",
    "rule " + " + ".join(["1 * 1 ^ n"] * 13),
    "keeps", "keeps ", "keeps  1", "keeps 1 ", "keeps 1, 2", "keeps 1,2", "keeps -1", "keeps (-1)", "keeps +1",
    "keeps 01", "keeps 0", "keeps 0 0", "keeps 0 0 0 0 0 0 0", "keeps 1 2 3 4 5 6 7 8", "keeps 0 0 0 0 0 0 0 1",
    "keeps 1000001", "keeps 0 1000001", "keeps x", "keeps 1 x", "keeps 1  2", "keeps 1\t2", "keeps 1\n", "Keeps 1",
    "keep 1", "keeps 1.0",
    "walks", "walks ", "walks  1", "walks 1 ", "walks 1 2", "walks 1 2 3", "walks 1 2 3 4 5", "walks 1 1 1", "walks -1",
    "walks (-1)", "walks 01", "walks 1000001", "walks 1 1 1 1000001", "walks 1 1 1 -1", "walks 1, 1, 1, 0", "walks x",
    "walks 1 1 1 x", "walks 1  1 1 0", "walks 1 1\n1 0", "Walks 1", "walk 1", "walks " + " ".join(["1"] * 49),
    "walks " + " ".join(["1"] * 35), "walks " + " ".join(["1"] * 37), "walks " + " ".join(["0"] * 64),
    "walks 1 1; 1 0", "walks 1 1 1 0 0",
]
for name in PLAIN + ["undo"]:
    WRONG_ORDERS += [
        name + " ", " " + name, name + "\n", name + "\t", name + " 1", name + " " + name, name.upper(), name.title(),
        name[:-1], name + "s", name + ",", name + "  ", name + ";",
    ]
for name in ["told", "turns"]:
    WRONG_ORDERS += [
        name, name + " ", name + "  1", name + " 1 ", " " + name + " 1", name + " 0", name + " 301", name + " 1000",
        name + " -1", name + " (-1)", name + " -0", name + " +1", name + " 01", name + " 1 2", name + " 1, 2",
        name + " x", name + " n", name + " 1.0", name + " 1\n", name + "\t1", name + "1", name.title() + " 1",
        name[:-1] + " 1", name + " " + "9" * 60, name + " 1 1 1 1",
    ]


def desk_of(*orders):
    desk = Desk()
    for text in orders:
        desk.order(text)
    return desk


def bar_text(bar):
    return "none" if bar is None else f"{bar[0]} {bar[1]}"


def plain_answer(text, row, rule):
    """Return the answer to an order that asks, or the error that it raises."""
    word, *numbers = text.split(" ")
    numbers = [int(number) for number in numbers]
    try:
        if word == "bar":
            return bar_text(rows.first_bar(row))
        if word == "new":
            return row_text(rows.new_numbers(row))
        if word == "rings":
            return row_text(rows.rings(row))
        if word == "factor":
            return str(rows.least_factor(row)).lower()
        if word == "above":
            return row_text(rows.least_above(row))
        if word == "series":
            return row_text(rows.series(row))
        if word == "ever":
            return bar_text(rules.first_bar_ever(rule))
        if word == "told":
            return row_text(rules.told(rule, numbers[0]))
        if word == "turns":
            return str(rules.rings_of(rule, numbers[0]))
        if word == "keeps":
            found = changes.spoiler(tuple(numbers))
            return "yes" if found is None else f"{found[0]} {found[1]}"
        size = {1: 1, 4: 2, 9: 3, 36: 6}[len(numbers)]
        table = tuple(tuple(numbers[size * k:size * k + size]) for k in range(size))
        return row_text(tables.walk_row(table, len(row)))
    except RowError as error:
        return error


class DeskCase(Case):

    def answers(self, answer, desk, text):
        self.gives(answer, desk.order, text)

    def shows(self, row, rule, desk):
        """The desk has this row and this rule, as far as orders tell."""
        self.answers(row_text(rows.new_numbers(row)), desk, "new")
        self.answers(row_text(rules.told(rule, 20)), desk, "told 20")
        for text in PLAIN + ["turns 6", "walks 1 1 1 0"]:
            answer = plain_answer(text, row, rule)
            if isinstance(answer, str):
                self.answers(answer, desk, text)
            else:
                self.fails(type(answer), desk.order, text, n=answer.n)


class InterfaceTest(DeskCase):

    def test_it_is_defined_in_desks(self):
        self.assertEqual(Desk.__module__, "backafter.desks")
        self.assertEqual(desks.Desk.__name__, "Desk")
        self.assertIn("order", vars(Desk))

    def test_the_argument_may_be_passed_by_name(self):
        self.assertEqual(Desk().order(text="row 1, 3"), "row 2")


class FirstTest(DeskCase):

    def test_the_beginning(self):
        for text, answer in FIRST.items():
            self.answers(answer, Desk(), text)
        desk = Desk()
        for text, answer in FIRST.items():
            self.answers(answer, desk, text)
        self.shows([1], [("power", 1, 1)], desk)
        self.fails(NothingToUndo, desk.order, "undo")


class RowOrderTest(DeskCase):

    def test_row(self):
        for text, row in ROWS.items():
            desk = Desk()
            self.answers(f"row {len(row)}", desk, f"row {text}")
            self.shows(row, [("power", 1, 1)], desk)

    def test_of_the_row(self):
        desk = desk_of("row 1, 3, 4, 7")
        for text, answer in [
            ("bar", "none"), ("new", "1, 2, 3, 4"), ("rings", "1, 1, 1, 1"), ("factor", "1"), ("above", "1, 3, 4, 7"),
            ("series", "1, 1, 2, 3, 5"), ("walks 1 1 1 0", "1, 3, 4, 7"), ("walks 10", "10, 100, 1000, 10000"),
        ]:
            self.answers(answer, desk, text)

    def test_of_a_barred_row(self):
        desk = desk_of("row 1, 2, 3, 4")
        self.answers("2 rest", desk, "bar")
        self.answers("1, 1, 2, 2", desk, "new")
        self.answers("6", desk, "factor")
        self.answers("1, 3, 4, 7", desk, "above")
        self.fails(Barred, desk.order, "rings", n=2)
        self.fails(NotWhole, desk.order, "series", n=2)
        desk.order("row 3, 1, 0")
        self.answers("2 below", desk, "bar")
        self.answers("3, -2, -3", desk, "new")
        self.answers("none", desk, "factor")
        self.answers("3, 3, 3", desk, "above")
        self.answers("1, 3, 5, 6", desk, "series")
        self.fails(Barred, desk.order, "rings", n=2)

    def test_negative_numbers_in_answers(self):
        desk = desk_of("row -2, 0, -5")
        self.answers("-2, 2, -3", desk, "new")
        self.answers("1 below", desk, "bar")
        self.answers("0, 0, 0", desk, "above")
        self.answers("1, -2, 2, -3", desk, "series")

    def test_small_rows(self):
        desk = Desk()
        for row in brute.small_rows(-2, 4, 3):
            desk.order("row " + row_text(row))
            self.shows(row, [("power", 1, 1)], desk)
            desk.order("undo")

    def test_rows_of_300_numbers(self):
        for row in ([n % 7 for n in range(300)], rows.row_of([10 ** 9 + n for n in range(300)]), [0] * 300):
            desk = Desk()
            self.answers("row 300", desk, "row " + row_text(row))
            self.shows(row, [("power", 1, 1)], desk)

    def test_rows_of_more_than_300_numbers(self):
        desk = Desk()
        self.answers("row 302", desk, "row " + ", ".join(["1"] * 302))
        self.answers(", ".join(["1"] * 302), desk, "walks 1")
        self.answers(", ".join(["1"] * 303), desk, "series")
        self.answers("none", desk, "bar")

    def test_the_rows_of_walks(self):
        desk = desk_of("row " + ", ".join(["1"] * 300))
        wide = "walks " + " ".join(["1000000"] * 36)
        self.answers(row_text([(6 * 10 ** 6) ** n for n in range(1, 301)]), desk, wide)
        # A ring of three places, gone through in 30 ways from each of them, and two places that lead to themselves.
        self.answers(row_text(tables.walk_row(((0, 2, 0), (0, 1, 3), (5, 0, 1)), 300)), desk, "walks 0 2 0 0 1 3 5 0 1")
        desk.order("row 0, 0, 0, 0")
        self.answers("2, 2, 92, 242", desk, "walks 0 2 0 0 1 3 5 0 1")


class RuleOrderTest(DeskCase):

    def test_rule(self):
        for text, rule in RULES.items():
            desk = Desk()
            self.answers(f"rule {len(rule)}", desk, f"rule {text}")
            self.shows([1], rule, desk)

    def test_of_the_rule(self):
        desk = desk_of("rule 1 * 2 ^ n + (-1) * ring 2")
        for text, answer in [
            ("ever", "none"), ("told 6", "2, 2, 8, 14, 32, 62"), ("turns 1", "2"), ("turns 2", "0"), ("turns 6", "9"),
            ("bar", "none"), ("new", "1"), ("told 1", "2"),
        ]:
            self.answers(answer, desk, text)

    def test_of_a_barred_rule(self):
        desk = desk_of("rule 1 * n ^ 1")
        self.answers("2 rest", desk, "ever")
        self.answers("1, 2, 3", desk, "told 3")
        self.fails(Barred, desk.order, "turns 1", n=2)
        self.fails(Barred, desk.order, "turns 300", n=2)
        desk.order("rule (-1) * ring 300")
        self.answers("300 below", desk, "ever")
        self.fails(Barred, desk.order, "turns 1", n=300)
        desk.order("rule 1000000 * 39 ^ n + (-1) * 40 ^ n")
        self.answers("546 below", desk, "ever")
        self.fails(Barred, desk.order, "turns 5", n=546)

    def test_300_numbers(self):
        desk = desk_of("rule " + " + ".join(["1000000 * 40 ^ n"] * 12))
        row = [12 * 10 ** 6 * 40 ** n for n in range(1, 301)]
        self.answers(row_text(row), desk, "told 300")
        self.answers(str(rows.rings(row)[299]), desk, "turns 300")


class ChangeOrderTest(DeskCase):

    def test_keeps(self):
        desk = Desk()
        for numbers, answer in [
            ("1", "yes"), ("1000000", "yes"), ("0 1", "yes"), ("0 0 0 0 0 0 5", "yes"), ("1 0 0", "yes"),
            ("0 1000000 0", "yes"), ("1 0 1", "2 2"), ("1 1", "2 2"), ("1 2", "3 2"),
        ]:
            self.answers(answer, desk, "keeps " + numbers)
        for numbers in ["0 1 1", "2 1", "1 2 3 4 5 6 7", "5 0 0 0 0 0 1000000", "6 5", "0 30 1"]:
            change = tuple(int(number) for number in numbers.split(" "))
            length, n = brute.spoiler(change, 40)
            self.answers(f"{length} {n}", desk, "keeps " + numbers)


class NoOrderTest(DeskCase):

    def test_texts_that_are_no_orders(self):
        desk = desk_of("row 1, 3, 4, 7", "rule 1 * 2 ^ n")
        for text in WRONG_ORDERS:
            self.fails(NoOrder, desk.order, text)
        self.shows([1, 3, 4, 7], [("power", 1, 2)], desk)
        self.answers("undone", desk, "undo")
        self.answers("undone", desk, "undo")
        self.fails(NothingToUndo, desk.order, "undo")

    def test_values_of_other_kinds(self):
        desk = desk_of("row 1, 3")
        for wrong in NOT_STRINGS:
            self.fails(NoOrder, desk.order, wrong)
        self.shows([1, 3], [("power", 1, 1)], desk)

    def test_wrong_rows_and_rules(self):
        desk = desk_of("row 1, 3", "rule 1 * 2 ^ n")
        for wrong in WRONG_NUMBERS:
            for text in (f"row {wrong}", f"row 1, {wrong}", f"row {wrong}, 1", f"told {wrong}", f"turns {wrong}"):
                self.fails(NoOrder, desk.order, text)
            # A blank between two numbers makes them two, so these are told from the other wrong ones.
            if wrong != "1 2":
                self.fails(NoOrder, desk.order, f"keeps {wrong}")
                self.fails(NoOrder, desk.order, f"keeps 1 {wrong}")
                self.fails(NoOrder, desk.order, f"walks {wrong}")
                self.fails(NoOrder, desk.order, f"walks 1 1 1 {wrong}")
        for wrong in WRONG_TERM_TEXTS:
            for text in (f"rule {wrong}", f"rule 1 * 1 ^ n + {wrong}", f"rule {wrong} + 1 * 1 ^ n"):
                self.fails(NoOrder, desk.order, text)
        self.shows([1, 3], [("power", 1, 2)], desk)

    def test_no_order_comes_first(self):
        # The row and the rule are barred, the series is not whole, and there is nothing more to undo.
        desk = desk_of("row 1, 2", "rule (-1) * 1 ^ n", "undo", "undo")
        for text in ["undo ", "undo 1", "undo undo", " undo", "Undo"]:
            self.fails(NoOrder, desk.order, text)
        desk = desk_of("row 1, 2", "rule (-1) * 1 ^ n")
        for text in ["rings ", "rings 1", "turns 0", "turns 301", "turns 1 1", "turns x", "turns", "series 1"]:
            self.fails(NoOrder, desk.order, text)
        self.fails(Barred, desk.order, "rings", n=2)
        self.fails(Barred, desk.order, "turns 300", n=1)
        self.fails(NotWhole, desk.order, "series", n=2)

    def test_slips(self):
        desk = Desk()
        for text in ["row -1, 20", "rule (-3) * 2 ^ n"]:
            for slip in slips(text):
                word, _, rest = slip.partition(" ")
                plain = {"row": plain_row, "rule": plain_rule}.get(word, lambda rest: None)(rest)
                if isinstance(plain, list):
                    self.answers(f"{word} {len(plain)}", desk, slip)
                else:
                    self.fails(NoOrder, desk.order, slip)


class UndoTest(DeskCase):

    def test_rows_and_rules_back_to_the_beginning(self):
        desk = Desk()
        states = [([1], [("power", 1, 1)])]
        for row, rule in [
            ([5], None), (None, [("ring", 1, 2)]), ([1, 2], None), ([1, 2], None), (None, [("places", 1, 1)]),
        ]:
            if row is None:
                desk.order("rule " + rule_text(rule))
                states.append((states[-1][0], rule))
            else:
                desk.order("row " + row_text(row))
                states.append((row, states[-1][1]))
            self.shows(*states[-1], desk)
        for row, rule in reversed(states[:-1]):
            self.answers("undone", desk, "undo")
            self.shows(row, rule, desk)
        for _ in range(3):
            self.fails(NothingToUndo, desk.order, "undo")
            self.shows([1], [("power", 1, 1)], desk)

    def test_what_is_refused_is_not_undone(self):
        desk = desk_of("row 1, 2", "row 1, 3")
        for text in ["row x", "rule x", "told 0", None]:
            self.fails(NoOrder, desk.order, text)
        for text in ["bar", "new", "factor", "above", "ever", "told 5", "keeps 1 1", "walks 1"]:
            desk.order(text)
        self.answers("undone", desk, "undo")
        self.shows([1, 2], [("power", 1, 1)], desk)
        self.fails(Barred, desk.order, "rings", n=2)
        self.fails(NotWhole, desk.order, "series", n=2)
        self.answers("undone", desk, "undo")
        self.shows([1], [("power", 1, 1)], desk)
        self.fails(NothingToUndo, desk.order, "undo")

    def test_the_same_row_again(self):
        desk = desk_of("row 1", "row 1", "rule 1 * 1 ^ n")
        for _ in range(3):
            self.answers("undone", desk, "undo")
        self.fails(NothingToUndo, desk.order, "undo")

    def test_hundreds_of_orders(self):
        desk = Desk()
        for n in range(190):
            self.answers(f"row {n % 5 + 1}", desk, "row " + ", ".join([str(n)] * (n % 5 + 1)))
        for n in range(189, -1, -1):
            self.answers(", ".join([str(n)] + ["0"] * (n % 5)), desk, "new")
            self.answers("undone", desk, "undo")
        self.fails(NothingToUndo, desk.order, "undo")


class AskedAgainTest(DeskCase):

    def test_answers_follow_the_row_and_the_rule(self):
        desk = Desk()
        for row, rule in [
            ([1, 3, 4], [("power", 1, 2)]), ([1, 2, 3], [("power", -1, 2)]), ([1, 3, 4], [("places", 1, 1)]),
            ([2, 4, 8, 16], [("ring", 5, 3)]), ([0], [("power", 0, 0)]),
        ]:
            for _ in range(2):
                desk.order("row " + row_text(row))
                desk.order("rule " + rule_text(rule))
                self.shows(row, rule, desk)
                self.shows(row, rule, desk)

    def test_the_same_again_and_again(self):
        desk = desk_of("row " + row_text(rows.row_of([10 ** 12 + n for n in range(300)])), "rule 1 * 40 ^ n")
        start = process_time()
        for _ in range(300):
            for text in PLAIN + ["turns 12"]:
                desk.order(text)
        self.assertLess(process_time() - start, 5)

    def test_two_desks_by_turns(self):
        one, two = Desk(), Desk()
        one.order("row 1, 3, 4, 7")
        two.order("rule 1 * 2 ^ n")
        self.shows([1, 3, 4, 7], [("power", 1, 1)], one)
        self.shows([1], [("power", 1, 2)], two)
        two.order("row 5, 5")
        one.order("undo")
        self.fails(NothingToUndo, one.order, "undo")
        self.shows([1], [("power", 1, 1)], one)
        self.shows([5, 5], [("power", 1, 2)], two)
        two.order("undo")
        two.order("undo")
        self.fails(NothingToUndo, two.order, "undo")

    def test_long_sessions(self):
        dice = random.Random(19)
        asked = PLAIN + ["told 7", "turns 4", "turns 12", "keeps 0 3", "keeps 2 1", "walks 2", "walks 1 2 0 1"]
        for _ in range(10):
            desk = Desk()
            states = [([1], [("power", 1, 1)])]
            for _ in range(120):
                choice = dice.randrange(12)
                row, rule = states[-1]
                if choice == 0:
                    row = [dice.randrange(-3, 20) for _ in range(dice.randrange(1, 7))]
                    if dice.randrange(2):
                        row = rows.row_of([abs(number) for number in row])
                    self.answers(f"row {len(row)}", desk, "row " + row_text(row))
                    states.append((row, rule))
                elif choice == 1:
                    rule = dice.choices(
                        [("power", 1, 2), ("power", 2, -2), ("ring", 1, 4), ("ring", -1, 2), ("places", 2, 2)],
                        k=dice.randrange(1, 4),
                    )
                    self.answers(f"rule {len(rule)}", desk, "rule " + rule_text(rule))
                    states.append((row, rule))
                elif choice == 2 and len(states) > 1:
                    self.answers("undone", desk, "undo")
                    states.pop()
                elif choice == 2:
                    self.fails(NothingToUndo, desk.order, "undo")
                elif choice == 3:
                    self.fails(NoOrder, desk.order, dice.choice(WRONG_ORDERS))
                else:
                    text = dice.choice(asked)
                    answer = plain_answer(text, row, rule)
                    if isinstance(answer, str):
                        self.answers(answer, desk, text)
                    else:
                        self.fails(type(answer), desk.order, text, n=answer.n)
