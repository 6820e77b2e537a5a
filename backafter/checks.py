"""What the values that are passed must be, for all parts that ask for the same."""

from backafter.errors import NoCounts, NoMany, NoNumber, NoRow, NoShuffle, NoTerm

MOST_THINGS = 300
MOST_NUMBERS = 300
MOST_TERMS = 12
MOST_COUNT = 10 ** 6
# The kinds of terms, each with the least and the greatest integer that may stand behind the count.
KINDS = (("power", -40, 40), ("ring", 1, 300), ("places", 1, 6))


def is_whole(value):
    """Tell whether a value is an integer."""
    return isinstance(value, int) and not isinstance(value, bool)


def is_from_to(value, least, most):
    """Tell whether a value is an integer from least to most."""
    return is_whole(value) and least <= value <= most


def check_row(row):
    """Raise NoRow unless the value is a row."""
    if not isinstance(row, list) or len(row) == 0:
        raise NoRow("a row is a list of at least one integer")
    if not all([is_whole(number) for number in row]):
        raise NoRow("each number of a row is an integer")


def check_counts(counts):
    """Raise NoCounts unless the value is a list of at least one integer from 0 on."""
    if not isinstance(counts, list) or len(counts) == 0:
        raise NoCounts(0)
    for index, count in enumerate(counts):
        if not is_whole(count) or count < 0:
            raise NoCounts(index)


def check_shuffle(shuffle):
    """Raise NoShuffle unless the value is a shuffle."""
    if not isinstance(shuffle, tuple) or not 1 <= len(shuffle) <= MOST_THINGS:
        raise NoShuffle("a shuffle is a tuple of at least one and at most 300 integers")
    if not all([is_whole(place) for place in shuffle]):
        raise NoShuffle("each item of a shuffle is an integer")
    if sorted(shuffle) != list(range(len(shuffle))):
        raise NoShuffle("a shuffle has each integer below its length once")


def check_many(many):
    """Raise NoMany unless the value is an integer from 1 to 300."""
    if not is_from_to(many, 1, MOST_NUMBERS):
        raise NoMany("how many numbers is an integer from 1 to 300")


def check_number(number):
    """Raise NoNumber unless the value is an integer from 1 to 300."""
    if not is_from_to(number, 1, MOST_NUMBERS):
        raise NoNumber("a number is an integer from 1 to 300")


def is_term(value):
    """Tell whether a value is a term of a rule."""
    if not isinstance(value, tuple) or len(value) != 3:
        return False
    kind, count, size = value
    if not isinstance(kind, str) or not is_from_to(count, -MOST_COUNT, MOST_COUNT):
        return False
    return any([kind == name and is_from_to(size, least, most) for name, least, most in KINDS])


def check_rule(rule):
    """Raise NoTerm unless the value is a list of at least one and at most twelve terms."""
    if not isinstance(rule, list) or len(rule) == 0:
        raise NoTerm(0)
    for index, term in enumerate(rule):
        if index >= MOST_TERMS or not is_term(term):
            raise NoTerm(index)
