"""Promise [18]: texts of rows and of rules, and back."""

import re
from itertools import product

from backafter import texts
from backafter.errors import NoRow, NoTerm, NoText
from backafter.rows import row_of, series
from backafter.texts import read_row, read_rule, row_text, rule_text
from tests.cases import BIG, NAN, NEITHER, NOT_INTEGERS, NOT_LISTS, Case, spoilt
from tests.test_rules import EDGES, MIXED, MOST, ONE, TWELVE, WRONG_TERMS

NOT_STRINGS = [value for value in NEITHER if not isinstance(value, str)] + [
    [], [1], ["1"], (), ("1",), ["1 * 1 ^ n"], b"1", b"1 * 1 ^ n", bytearray(b"1"), str, NAN,
]
ROWS = {
    "0": [0], "1": [1], "-1": [-1], "7, -30, 0": [7, -30, 0], "1, 3, 4, 7": [1, 3, 4, 7],
    "10, 100, -1000": [10, 100, -1000], "0, 0, 0": [0, 0, 0], f"{BIG}, -{BIG}": [BIG, -BIG],
    "9" * 60: [10 ** 60 - 1], "-" + "9" * 60: [1 - 10 ** 60],
}
RULES = {
    "1 * 1 ^ n": [ONE],
    "0 * 0 ^ n": [("power", 0, 0)],
    "3 * 2 ^ n": [("power", 3, 2)],
    "(-3) * 2 ^ n + 1 * ring 6": [("power", -3, 2), ("ring", 1, 6)],
    "3 * (-2) ^ n": [("power", 3, -2)],
    "(-1000000) * (-40) ^ n": [("power", -MOST, -40)],
    "1000000 * 40 ^ n": [("power", MOST, 40)],
    "(-10) * ring 300": [("ring", -10, 300)],
    "0 * ring 1": [("ring", 0, 1)],
    "5 * n ^ 6": [("places", 5, 6)],
    "(-5) * n ^ 1": [("places", -5, 1)],
    "3 * 2 ^ n + (-1) * ring 2 + 2 * n ^ 3 + 0 * ring 300 + 1000000 * (-40) ^ n": MIXED,
    " + ".join(["1 * 2 ^ n + 2 * ring 3 + 3 * 1 ^ n"] * 4): TWELVE,
}
WRONG_NUMBERS = [
    "", " ", "-", "+", "--1", "-0", "+0", "+1", "00", "01", "-01", "-00", "007", " 1", "1 ", " 1 ", "- 1", "1-", "1.0",
    "1e3", "1_000", "0x1", "(1)", "(-1)", "()", "one", "n", "None", "True", "1\n", "\n1", "1\t", "\t1", "1;", "1,",
    ",1", ",", "1,2", "1 2", "1 ,2", "'1'", "1/1", "1" * 60 + "x", "0" + "1" * 59, "-1-", "1-1", "1+1", "~1", "!1", "#",
]
WRONG_TERM_TEXTS = [
    "", " ", "1", "1 * 1", "1 *", "* 1 ^ n", "1 ^ n", "1 * 1 ^", "1 * 1 ^ m", "1 * 1 ^ N", "1 * 1 ^ 1", "n * 1 ^ n",
    "1 * n ^ n", "1 * n", "n", "ring", "ring 6", "1 * ring", "1 * ring ", "1 * Ring 6", "1 * rings 6", "1 ring 6",
    "1 * ring6", "1 * ring 6 7", "1 * ring n", "1*1^n", "1 *1 ^ n", "1 * 1 ^n", "1 * 1^ n", "1  * 1 ^ n", "1 *  1 ^ n",
    "1 * 1  ^ n", "1 * 1 ^  n", " 1 * 1 ^ n", "1 * 1 ^ n ", "1 * 1 ^ n\n", "1\t* 1 ^ n", "1 * ring  6", "1 * ring\t6",
    "1 * n ^ 6 ", "1 * n  ^ 6", "1 ** 1 ^ n", "1 * 1 ** n", "1 x 1 ^ n", "1 + 1 ^ n", "1 * 1 * n", "1 * ring 6 ^ n",
    "-3 * 2 ^ n", "3 * -2 ^ n", "-3 * ring 2", "-3 * n ^ 2", "(3) * 2 ^ n", "3 * (2) ^ n", "(3) * ring 2",
    "3 * ring (2)", "3 * n ^ (2)", "(0) * 2 ^ n", "(-0) * 2 ^ n", "-0 * 2 ^ n", "2 * (-0) ^ n", "2 * -0 ^ n",
    "+3 * 2 ^ n", "3 * +2 ^ n",
    "(+3) * 2 ^ n", "03 * 2 ^ n", "3 * 02 ^ n", "(-03) * 2 ^ n", "3 * (-02) ^ n", "3 * ring 02", "3 * ring +2",
    "3 * n ^ 02", "( -3) * 2 ^ n", "(-3 ) * 2 ^ n", "(- 3) * 2 ^ n", "((-3)) * 2 ^ n", "(-3 * 2 ^ n", "-3) * 2 ^ n",
    "(--3) * 2 ^ n", "() * 2 ^ n", "(-) * 2 ^ n", "3 * () ^ n", "3 * (-) ^ n", "3 * (-2 ^ n", "3 * -2) ^ n",
    "3 * ring -2", "3 * ring (-2)", "3 * n ^ -2", "3 * n ^ (-2)", "[-3] * 2 ^ n", "3 * 2 ^ (n)", "(3 * 2 ^ n)",
    "1000001 * 2 ^ n", "(-1000001) * 2 ^ n", "1000001 * ring 2", "(-1000001) * n ^ 2", "1 * 41 ^ n", "1 * (-41) ^ n",
    "1 * ring 0", "1 * ring 301", "1 * n ^ 0", "1 * n ^ 7", "0 * 41 ^ n", "0 * ring 301", "0 * n ^ 7",
    f"{BIG} * 2 ^ n", f"1 * {BIG} ^ n", f"1 * ring {BIG}", f"1 * n ^ {BIG}", "1.0 * 2 ^ n", "1 * 2.0 ^ n", "1 * 2 ^ n,",
    "1 * 2 ^ n+", "1 * 2 ^ n +", "+ 1 * 2 ^ n", "1 * 2 ^ n+1 * 2 ^ n", "1 * 2 ^ n - 1 * 2 ^ n", "row 1",
    "rule 1 * 1 ^ n",
]
NUMBER = "(0|[1-9][0-9]*)"
SIGNED = "(0|[1-9][0-9]*|\\(-[1-9][0-9]*\\))"
TERMS = [
    ("power", f"{SIGNED} \\* {SIGNED} \\^ n"), ("ring", f"{SIGNED} \\* ring {NUMBER}"),
    ("places", f"{SIGNED} \\* n \\^ {NUMBER}"),
]
LIMITS = {"power": (-40, 40), "ring": (1, 300), "places": (1, 6)}


def plain_row(text):
    """Return the row of a text, or the index of its first wrong part."""
    row = []
    for index, part in enumerate(text.split(", ")):
        if not re.fullmatch("0|-?[1-9][0-9]*", part):
            return index
        row.append(int(part))
    return row


def plain_term(text):
    for kind, pattern in TERMS:
        found = re.fullmatch(pattern, text)
        if found:
            count, size = [int(number.strip("()")) for number in found.groups()]
            least, most = LIMITS[kind]
            if -MOST <= count <= MOST and least <= size <= most:
                return kind, count, size
    return None


def plain_rule(text):
    """Return the rule of a text, or the index of its first wrong part."""
    rule = []
    for index, part in enumerate(text.split(" + ")):
        term = plain_term(part)
        if term is None or index == 12:
            return index
        rule.append(term)
    return rule


def slips(text):
    """Return the text with one of its characters left out, twice there, or put in the place of another."""
    found = []
    for at in range(len(text)):
        found.append(text[:at] + text[at + 1:])
        found.append(text[:at] + text[at] + text[at:])
        for other in " 0135n-+*^(),r\t\n":
            found.append(text[:at] + other + text[at + 1:])
            found.append(text[:at] + other + text[at:])
    return found + [text + other for other in " 07n)+,\n"]


class InterfaceTest(Case):

    def test_each_name_is_defined_in_texts(self):
        for name in ["row_text", "rule_text", "read_row", "read_rule"]:
            self.assertEqual(getattr(texts, name).__module__, "backafter.texts")

    def test_arguments_may_be_passed_by_name(self):
        self.assertEqual(row_text(row=[1, -2]), "1, -2")
        self.assertEqual(rule_text(rule=[("ring", 1, 2)]), "1 * ring 2")
        self.assertEqual(read_row(text="1, -2"), [1, -2])
        self.assertEqual(read_rule(text="1 * ring 2"), [("ring", 1, 2)])

    def test_returned_lists_are_new(self):
        self.gives_new_lists(read_row, "1, 3, 4, 7")
        first = read_rule("1 * 2 ^ n")
        first.append(None)
        self.gives([("power", 1, 2)], read_rule, "1 * 2 ^ n")


class WrittenTest(Case):

    def test_rows(self):
        for text, row in ROWS.items():
            self.gives(text, row_text, row)

    def test_rules(self):
        for text, rule in RULES.items():
            self.gives(text, rule_text, rule)

    def test_no_row(self):
        for wrong in NOT_LISTS + [[]]:
            self.fails(NoRow, row_text, wrong)
        for row in ([1], [1, 3, 4, 7], [0] * 300):
            for _, changed in spoilt(row, NOT_INTEGERS):
                self.fails(NoRow, row_text, changed)

    def test_no_term(self):
        for wrong in NOT_LISTS + [ONE, (ONE,), "1 * 1 ^ n", []]:
            self.fails(NoTerm, rule_text, wrong, index=0)
        for rule in ([ONE], MIXED, TWELVE):
            for place, changed in spoilt(rule, WRONG_TERMS):
                self.fails(NoTerm, rule_text, changed, index=place)
        self.fails(NoTerm, rule_text, TWELVE + [ONE], index=12)
        self.fails(NoTerm, rule_text, TWELVE + [None, ONE], index=12)
        self.fails(NoTerm, rule_text, [ONE, None, ("ring", 1, 0)], index=1)


class ReadTest(Case):

    def test_rows(self):
        for text, row in ROWS.items():
            self.gives(row, read_row, text)

    def test_rules(self):
        for text, rule in RULES.items():
            self.gives(rule, read_rule, text)

    def test_edges(self):
        for term in EDGES:
            self.gives([term], read_rule, rule_text([term]))
            self.gives([ONE, term, ONE], read_rule, rule_text([ONE, term, ONE]))

    def test_each_base_length_power(self):
        for base in range(-43, 44):
            size = f"({base})" if base < 0 else str(base)
            if -40 <= base <= 40:
                self.gives([("power", -2, base)], read_rule, f"(-2) * {size} ^ n")
            else:
                self.fails(NoText, read_rule, f"(-2) * {size} ^ n", index=0)
        for length in range(1, 301):
            self.gives([("ring", 2, length)], read_rule, f"2 * ring {length}")
        for power in range(1, 7):
            self.gives([("places", 2, power)], read_rule, f"2 * n ^ {power}")

    def test_no_string(self):
        for wrong in NOT_STRINGS:
            self.fails(NoText, read_row, wrong, index=0)
            self.fails(NoText, read_rule, wrong, index=0)


class WrongRowTextTest(Case):

    def test_wrong_numbers_in_each_place(self):
        for wrong in WRONG_NUMBERS:
            for index in range(4):
                parts = ["1", "-20", "0", "7"]
                parts[index] = wrong
                self.fails(NoText, read_row, ", ".join(parts), index=index)
            self.fails(NoText, read_row, wrong, index=0)
            self.fails(NoText, read_row, ", ".join(["5"] * 299 + [wrong]), index=299)

    def test_the_first_wrong_one_is_told(self):
        self.fails(NoText, read_row, "1, x, 2, y, z", index=1)
        self.fails(NoText, read_row, "1, 2, ", index=2)
        self.fails(NoText, read_row, ", 1, 2", index=0)
        self.fails(NoText, read_row, "1, , 2", index=1)
        self.fails(NoText, read_row, "1,  2", index=1)
        self.fails(NoText, read_row, "1 , 2", index=0)
        self.fails(NoText, read_row, "1, 2,3", index=1)
        self.fails(NoText, read_row, ", ", index=0)

    def test_short_texts_one_by_one(self):
        read = 0
        for length in range(6):
            for signs in product("01-, ", repeat=length):
                text = "".join(signs)
                plain = plain_row(text)
                if isinstance(plain, list):
                    self.gives(plain, read_row, text)
                    self.gives(text, row_text, plain)
                    read += 1
                else:
                    self.fails(NoText, read_row, text, index=plain)
        self.assertGreater(read, 50)

    def test_slips(self):
        for text in ["-10, 3, 105", "7, 0, -1, 0"]:
            for slip in slips(text):
                plain = plain_row(slip)
                if isinstance(plain, list):
                    self.gives(plain, read_row, slip)
                else:
                    self.fails(NoText, read_row, slip, index=plain)

    def test_digits_of_other_scripts(self):
        for wrong in ["\u0661", "\u00b2", "\uff11", "1\u00a0", "\u22121"]:
            self.fails(NoText, read_row, f"1, {wrong}", index=1)
            self.fails(NoText, read_rule, f"1 * 1 ^ n + {wrong} * 1 ^ n", index=1)


class WrongRuleTextTest(Case):

    def test_wrong_terms_in_each_place(self):
        good = ["3 * 2 ^ n", "(-1) * ring 6", "2 * n ^ 3"]
        for wrong in WRONG_TERM_TEXTS:
            self.fails(NoText, read_rule, wrong, index=plain_rule(wrong))
            for index in range(3):
                text = " + ".join(good[:index] + [wrong] + good[index + 1:])
                self.fails(NoText, read_rule, text, index=plain_rule(text))
        for wrong in ["-3 * 2 ^ n", "1 * ring 301", "1 * n ^ n", "1  * 1 ^ n", "(3) * 1 ^ n", ""]:
            for index in range(12):
                text = " + ".join((good * 4)[:index] + [wrong] + (good * 4)[index + 1:])
                self.fails(NoText, read_rule, text, index=index)

    def test_the_first_wrong_one_is_told(self):
        self.fails(NoText, read_rule, "1 * 1 ^ n + x + y", index=1)
        self.fails(NoText, read_rule, "1 * 1 ^ n + ", index=1)
        self.fails(NoText, read_rule, " + 1 * 1 ^ n", index=0)
        self.fails(NoText, read_rule, "1 * 1 ^ n +  + 1 * 1 ^ n", index=1)
        self.fails(NoText, read_rule, "1 * 1 ^ n  + 1 * 1 ^ n", index=0)
        self.fails(NoText, read_rule, "1 * 1 ^ n +  1 * 1 ^ n", index=1)
        self.fails(NoText, read_rule, "1 * 1 ^ n, 1 * 1 ^ n", index=0)

    def test_a_thirteenth_term(self):
        twelve = rule_text(TWELVE)
        for behind in ["1 * 1 ^ n", "", "x", "1 * ring 301"]:
            self.fails(NoText, read_rule, f"{twelve} + {behind}", index=12)
            self.fails(NoText, read_rule, f"{twelve} + {behind} + 1 * 1 ^ n", index=12)
            self.fails(NoText, read_rule, f"x + {twelve} + {behind}", index=0)
            self.fails(NoText, read_rule, f"1 * 1 ^ n + x + {twelve} + {behind}", index=1)
        self.fails(NoText, read_rule, " + ".join(["1 * 1 ^ n"] * 300), index=12)
        self.fails(NoText, read_rule, " + ".join(["1 * 1 ^ n"] * 11 + ["1 * 1 ^ m", "1 * 1 ^ n"]), index=11)

    def test_slips(self):
        read = 0
        for text in ["(-3) * 2 ^ n + 1 * ring 6", "12 * (-1) ^ n + 30 * n ^ 5", "(-1) * ring 30"]:
            for slip in slips(text):
                plain = plain_rule(slip)
                if isinstance(plain, list):
                    self.gives(plain, read_rule, slip)
                    self.gives(slip, rule_text, plain)
                    read += 1
                else:
                    self.fails(NoText, read_rule, slip, index=plain)
        self.assertGreater(read, 50)


class LongTest(Case):

    def test_great_numbers(self):
        for digits in [1, 59, 60, 61, 999, 3999, 4000, 4001, 4215, 4216, 4300, 4301, 8000, 8001, 12345]:
            zeros = "0" * (digits - 1)
            power = 10 ** (digits - 1)
            for number, text in [
                (power, "1" + zeros), (-power, "-1" + zeros), (7 * power, "7" + zeros), (-9 * power, "-9" + zeros),
                (power * 10 - power, "9" + zeros),
            ]:
                self.gives(text, row_text, [number])
                self.gives([5, number], read_row, f"5, {text}")
            if digits > 1:
                self.gives("1" + zeros[1:] + "3", row_text, [power + 3])
                self.gives([-power - 3], read_row, "-1" + zeros[1:] + "3")
            self.fails(NoText, read_row, "1, 0" + "1" * digits, index=1)
            self.fails(NoText, read_row, "1, -0" + "1" * digits, index=1)

    def test_rows_of_300_numbers_of_4000_digits(self):
        row = [(10 ** 4000 // (n + 7)) * (-1) ** n for n in range(300)]
        text = row_text(row)
        self.assertEqual(read_row(text), row)
        self.assertEqual(row_text(read_row(text)), text)
        self.assertEqual(text.count(", "), 299)

    def test_what_the_package_returns(self):
        row = series(row_of([BIG] * 60))
        self.assertEqual(read_row(row_text(row)), row)
