"""A desk, which reads orders and answers them."""

from math import isqrt

from backafter.changes import spoiler
from backafter.checks import MOST_NUMBERS, is_from_to
from backafter.digits import read_natural, written
from backafter.errors import NoChange, NoOrder, NoTable, NothingToUndo, NoText
from backafter.rows import first_bar, least_above, least_factor, new_numbers, rings, series
from backafter.rules import first_bar_ever, rings_of, told
from backafter.tables import check_table, row_of_walks
from backafter.texts import read_row, read_rule, row_text


class Desk:
    """A row and a rule, and the orders that set them and ask about them."""

    def __init__(self):
        # Each row and rule that was the present one, the present one last.
        self._states = [([1], [("power", 1, 1)])]
        # The same is asked again and again: the answers about the present row and rule that need no numbers.
        self._answers = {}

    def order(self, text):
        """Do what an order says, and return its answer."""
        if not isinstance(text, str):
            raise NoOrder("an order is a text")
        word, blank, rest = text.partition(" ")
        if blank == "":
            return self._undo() if word == "undo" else self._answer(word)
        if word == "row":
            return self._set_row(rest)
        if word == "rule":
            return self._set_rule(rest)
        return self._answer_with(word, _numbers_in(rest))

    def _set_row(self, text):
        try:
            numbers = read_row(text)
        except NoText:
            raise NoOrder("this is no row")
        self._put(numbers, self._states[-1][1])
        return f"row {len(numbers)}"

    def _set_rule(self, text):
        try:
            terms = read_rule(text)
        except NoText:
            raise NoOrder("this is no rule")
        self._put(self._states[-1][0], terms)
        return f"rule {len(terms)}"

    def _put(self, row, rule):
        self._states.append((row, rule))
        self._answers = {}

    def _undo(self):
        if len(self._states) == 1:
            raise NothingToUndo("no row and no rule is there that could be taken back")
        self._states.pop()
        self._answers = {}
        return "undone"

    def _answer(self, word):
        if word not in self._answers:
            row, rule = self._states[-1]
            self._answers[word] = _about(word, row, rule)
        return self._answers[word]

    def _answer_with(self, word, numbers):
        row, rule = self._states[-1]
        if word == "told":
            return row_text(told(rule, _one_of(numbers)))
        if word == "turns":
            return written(rings_of(rule, _one_of(numbers)))
        if word == "keeps":
            return _keeps(tuple(numbers))
        if word == "walks":
            return row_text(row_of_walks(_table_of(numbers), len(row)))
        raise NoOrder("there is no such order with numbers")


def _about(word, row, rule):
    """Return the answer to an order of one word about a row or a rule."""
    if word == "bar":
        return _bar_text(first_bar(row))
    if word == "new":
        return row_text(new_numbers(row))
    if word == "rings":
        return row_text(rings(row))
    if word == "factor":
        factor = least_factor(row)
        return "none" if factor is None else written(factor)
    if word == "above":
        return row_text(least_above(row))
    if word == "series":
        return row_text(series(row))
    if word == "ever":
        return _bar_text(first_bar_ever(rule))
    raise NoOrder("there is no such order of one word")


def _bar_text(bar):
    return "none" if bar is None else f"{bar[0]} {bar[1]}"


def _keeps(change):
    try:
        found = spoiler(change)
    except NoChange:
        raise NoOrder("this is no change")
    return "yes" if found is None else f"{found[0]} {found[1]}"


def _table_of(numbers):
    """Return the table whose rows, one behind another, have these numbers."""
    # Where there are not so many times so many numbers, the last row comes out shorter, or there is a row too many.
    size = isqrt(len(numbers))
    table = tuple([tuple(numbers[start:start + size]) for start in range(0, len(numbers), size)])
    try:
        check_table(table)
    except NoTable:
        raise NoOrder("this is no table")
    return table


def _numbers_in(text):
    """Return the integers from 0 on that stand in a text with a blank between, None for each part that is none."""
    return [read_natural(part) for part in text.split(" ")]


def _one_of(numbers):
    """Return the one number from 1 to 300 that is asked for."""
    if len(numbers) != 1 or not is_from_to(numbers[0], 1, MOST_NUMBERS):
        raise NoOrder("there is one number, from 1 to 300")
    return numbers[0]
