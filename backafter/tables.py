"""Tables, which tell how many steps lead from place to place: the walks on them that come back, and their rings."""

from backafter.checks import check_many, check_number, is_from_to
from backafter.errors import NoTable
from backafter.rows import rings

MOST_PLACES = 6
MOST_STEPS = 10 ** 6


def walk_row(table, many):
    """Return the row of how many walks of 1 to many steps end where they began."""
    check_table(table)
    check_many(many)
    return row_of_walks(table, many)


def walk_rings(table, number):
    """Return how many rings of so many steps there are that are no shorter ring gone through several times."""
    check_table(table)
    check_number(number)
    return rings(row_of_walks(table, number))[number - 1]


def row_of_walks(table, many):
    """Return the walk row of a table, of as many numbers as are asked for, be they more than 300."""
    walks = table
    row = []
    for _ in range(many):
        row.append(sum([walks[place][place] for place in range(len(table))]))
        walks = _with_a_step(walks, table)
    return row


def _with_a_step(walks, table):
    """Return how many walks lead from place to place that go a step further than these."""
    columns = list(zip(*table))
    return [[sum([some * more for some, more in zip(walk, column)]) for column in columns] for walk in walks]


def check_table(table):
    """Raise NoTable unless the value is a table."""
    if not isinstance(table, tuple) or not 1 <= len(table) <= MOST_PLACES:
        raise NoTable("a table is a tuple of one to six tuples")
    for steps in table:
        if not isinstance(steps, tuple) or len(steps) != len(table):
            raise NoTable("each tuple of a table has as many items as there are tuples")
        if not all([is_from_to(number, 0, MOST_STEPS) for number in steps]):
            raise NoTable("each item of a table is an integer from 0 to 10 ** 6")
