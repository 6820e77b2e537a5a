"""Texts of rows and of rules, and back."""

from backafter.checks import MOST_TERMS, check_row, check_rule, is_term
from backafter.digits import read_natural, read_whole, written
from backafter.errors import NoText

_BETWEEN_NUMBERS = ", "
_BETWEEN_TERMS = " + "


def row_text(row):
    """Return the text of a row."""
    check_row(row)
    return _BETWEEN_NUMBERS.join([written(number) for number in row])


def rule_text(rule):
    """Return the text of a rule."""
    check_rule(rule)
    return _BETWEEN_TERMS.join([_term_text(term) for term in rule])


def read_row(text):
    """Return the row that has this text."""
    row = []
    for index, part in enumerate(_parts(text, _BETWEEN_NUMBERS)):
        number = read_whole(part)
        if number is None:
            raise NoText(index)
        row.append(number)
    return row


def read_rule(text):
    """Return the rule that has this text."""
    rule = []
    for index, part in enumerate(_parts(text, _BETWEEN_TERMS)):
        term = _read_term(part)
        if index >= MOST_TERMS or not is_term(term):
            raise NoText(index)
        rule.append(term)
    return rule


def _parts(text, between):
    if not isinstance(text, str):
        raise NoText(0)
    return text.split(between)


def _term_text(term):
    kind, count, size = term
    if kind == "power":
        return f"{_bracketed(count)} * {_bracketed(size)} ^ n"
    if kind == "ring":
        return f"{_bracketed(count)} * ring {written(size)}"
    return f"{_bracketed(count)} * n ^ {written(size)}"


def _bracketed(number):
    """Return an integer as counts and bases are written."""
    return f"({written(number)})" if number < 0 else written(number)


def _read_term(text):
    """Return the kind, the count and the size of a term, with None in the place of what is no integer."""
    words = text.split(" ")
    count = _read_bracketed(words[0])
    if len(words) == 5 and words[1] == "*" and words[3:] == ["^", "n"]:
        return ("power", count, _read_bracketed(words[2]))
    if len(words) == 4 and words[1:3] == ["*", "ring"]:
        return ("ring", count, read_natural(words[3]))
    if len(words) == 5 and words[1:4] == ["*", "n", "^"]:
        return ("places", count, read_natural(words[4]))
    return None


def _read_bracketed(text):
    """Return the integer that is written as counts and bases are, None if it is none."""
    if not text.startswith("(-") or not text.endswith(")"):
        return read_natural(text)
    return read_whole(text[1:-1])
