"""The errors of the package, each a direct subclass of RowError."""

# A field may be any value, also one that cannot be shown, so no message is built from it.


class RowError(ValueError):
    """The base of all errors."""


class NoRow(RowError):
    """A value is not a list of at least one integer."""


class NoSeries(RowError):
    """A value is not a list of at least two integers that begins with 1."""


class NoStep(RowError):
    """A value is not an integer from 1 to the length of the row."""


class NoPower(RowError):
    """A value is not an integer from 1 to 6."""


class NoHole(RowError):
    """A value is not a list of integers and one None."""


class NoShuffle(RowError):
    """A value is not a tuple of the integers below its length, each once."""


class NoMany(RowError):
    """A value does not tell how many numbers a row is to have."""


class NoTimes(RowError):
    """A value does not tell how many turns there are to be."""


class TooMany(RowError):
    """A shuffle would have too many things, or none."""


class NoNumber(RowError):
    """A value is not a number that can stand there."""


class NoChange(RowError):
    """A value is not a change of n."""


class NotThere(RowError):
    """A row would have no number."""


class NoTable(RowError):
    """A value is not a table."""


class NoCount(RowError):
    """A value does not tell how many rings there are to be."""


class NothingToUndo(RowError):
    """There is nothing that could be taken back."""


class NoOrder(RowError):
    """A value is not an order."""


class Barred(RowError):
    """A row is barred at n."""

    def __init__(self, n):
        super().__init__("the row is barred")
        self.n = n


class NoCounts(RowError):
    """The item with this index does not count rings."""

    def __init__(self, index):
        super().__init__("counts are a list of at least one integer from 0 on")
        self.index = index


class NotWhole(RowError):
    """The item of a series with the index n is no whole number."""

    def __init__(self, n):
        super().__init__("an item of the series is no whole number")
        self.n = n


class NoTerm(RowError):
    """The item with this index is not a term of a rule."""

    def __init__(self, index):
        super().__init__("a rule is a list of one to twelve terms")
        self.index = index


class NoText(RowError):
    """The part of a text with this index cannot stand there."""

    def __init__(self, index):
        super().__init__("a part of the text cannot stand there")
        self.index = index
