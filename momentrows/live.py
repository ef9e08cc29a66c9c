"""Rows that grow, and always have a lot in their place."""

from momentrows.deciding import lot_of
from momentrows.errors import NoFit, NoNumber, NoRow, NoStep, TooMany
from momentrows.further import longest, next_fits
from momentrows.lots import Lot
from momentrows.polys import Poly
from momentrows.ratios import Ratio, is_number, is_whole, ratio_of
from momentrows.rows import MOST_NUMBERS
from momentrows.steps import kind


class Means:
    """A row that grows one number at a time; at first it is empty."""

    def __init__(self, place):
        self.place = place
        # Lists of numbers are replaced and never changed, so that the earlier ones can be kept here.
        self._numbers = []
        self._earlier = []
        self._later = []

    def __len__(self):
        return len(self._numbers)

    def __getitem__(self, at):
        if not is_whole(at) or at < 0 or at >= len(self._numbers):
            raise NoNumber("k")
        return self._numbers[at]

    def __setitem__(self, at, worth):
        if not is_whole(at) or at < 0 or at > len(self._numbers):
            raise NoNumber("k")
        if not is_number(worth):
            raise NoNumber("m")
        if at >= MOST_NUMBERS:
            raise TooMany()
        self._replace(self._numbers[:at], [ratio_of(worth)])

    def __iadd__(self, other):
        self.put_all(other)
        return self

    def __iter__(self):
        raise TypeError("take row() of a live row")

    def put(self, m):
        """Adds the number at the end."""
        if not is_number(m):
            raise NoNumber("m")
        if len(self._numbers) >= MOST_NUMBERS:
            raise TooMany()
        self._replace(self._numbers, [ratio_of(m)])

    def put_all(self, numbers):
        """Adds all of the numbers at the end, or none."""
        if not isinstance(numbers, (list, tuple)):
            raise NoRow(-1)
        for k in range(len(numbers)):
            if not is_number(numbers[k]):
                raise NoRow(k)
        if len(self._numbers) + len(numbers) > MOST_NUMBERS:
            raise TooMany()
        if len(numbers) > 0:
            self._replace(self._numbers, [ratio_of(number) for number in numbers])

    def row(self):
        """The numbers as a list."""
        return list(self._numbers)

    def fits(self):
        """The interval of the next number."""
        return _fits(self._numbers, self.place)

    def kind(self):
        """("empty",), or the kind of the row."""
        if len(self._numbers) == 0:
            return ("empty",)
        return kind(self._numbers, self.place)

    def lot(self):
        """A lot of the row with as few points as possible."""
        if len(self._numbers) == 0:
            return Lot(Poly([1]), [])
        return lot_of(self._numbers, self.place)

    def undo(self):
        """Takes the last deed back."""
        if len(self._earlier) == 0:
            raise NoStep()
        self._later.append(self._numbers)
        self._numbers = self._earlier.pop()

    def redo(self):
        """Does again what was taken back last."""
        if len(self._later) == 0:
            raise NoStep()
        self._earlier.append(self._numbers)
        self._numbers = self._later.pop()

    def branch(self):
        """A new live row with the same numbers, and without deeds to take back or to do again."""
        found = Means(self.place)
        found._numbers = self._numbers
        return found

    def _replace(self, kept, added):
        """Does the deed after which the row consists of these two lists."""
        numbers = kept + added
        many = longest(numbers, self.place)
        if many < len(numbers):
            low, high = _fits(numbers[:many], self.place)
            raise NoFit(low, high)
        self._earlier.append(self._numbers)
        self._later = []
        self._numbers = numbers


def _fits(numbers, place):
    """The interval of the number behind these, which may be none."""
    if len(numbers) == 0:
        return Ratio(0), None
    return next_fits(numbers, place)
