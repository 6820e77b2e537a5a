"""A live row, which tells what may come next."""

from backafter.checks import is_whole
from backafter.errors import Barred, NoCount, NoNumber, NothingToUndo


class Live:
    """A turn row that grows by a number at a time."""

    def __init__(self):
        self._numbers = []
        self._counts = []

    def tell(self, number):
        """Put the next number behind the row."""
        if not is_whole(number):
            raise NoNumber("a number of a row is an integer")
        if not self._may_come(number):
            raise Barred(len(self._numbers) + 1)
        least, step = self.coming()
        self._put(number, (number - least) // step)

    def lay(self, count):
        """Put the number behind the row that makes so many rings of the next length."""
        if not is_whole(count) or count < 0:
            raise NoCount("how many rings is an integer from 0 on")
        least, step = self.coming()
        self._put(least + step * count, count)

    def undo(self):
        """Take back the last number that was told or laid."""
        if len(self._numbers) == 0:
            raise NothingToUndo("no number is there that could be taken back")
        self._numbers.pop()
        self._counts.pop()

    def coming(self):
        """Return (least, step): the numbers that may come next are least, least plus step, and so on."""
        n = len(self._counts) + 1
        # The things on the rings whose lengths divide n are back in any case.
        least = sum([d * count for d, count in enumerate(self._counts, start=1) if n % d == 0])
        return (least, n)

    def row(self):
        """Return the list of the numbers so far."""
        return list(self._numbers)

    def rings(self):
        """Return the list of the rings so far."""
        return list(self._counts)

    def __len__(self):
        return len(self._numbers)

    def __contains__(self, value):
        return is_whole(value) and self._may_come(value)

    @property
    def things(self):
        """How many things are on rings so far."""
        return sum([n * count for n, count in enumerate(self._counts, start=1)])

    def _may_come(self, number):
        least, step = self.coming()
        return number >= least and (number - least) % step == 0

    def _put(self, number, count):
        self._numbers.append(number)
        self._counts.append(count)
