"""Places: the line, half lines and segments."""

from momentrows.errors import NoNumber, NoPlace
from momentrows.polys import Poly
from momentrows.ratios import is_number, is_whole, ratio_of


class Place:
    """All real numbers from low to high; None means that there is no end."""

    def __init__(self, low=None, high=None):
        if low is not None and not is_number(low):
            raise NoPlace("low")
        if high is not None and not is_number(high):
            raise NoPlace("high")
        if high is not None and (low is None or low >= high):
            raise NoPlace("order")
        self.low = None if low is None else ratio_of(low)
        self.high = None if high is None else ratio_of(high)

    def __eq__(self, other):
        return isinstance(other, Place) and self.low == other.low and self.high == other.high

    def __contains__(self, x):
        if self.low is not None and x < self.low:
            return False
        return self.high is None or x <= self.high

    def is_line(self):
        """Whether the place has no end."""
        return self.low is None

    def is_segment(self):
        """Whether the place has two ends."""
        return self.high is not None

    def moved(self, by):
        """The place of all x + by."""
        if not is_number(by):
            raise NoNumber("by")
        return Place(
            None if self.low is None else self.low + by,
            None if self.high is None else self.high + by,
        )

    def stretched(self, by):
        """The place of all x * by, for by above 0."""
        if not is_number(by) or by <= 0:
            raise NoNumber("by")
        return Place(
            None if self.low is None else self.low * by,
            None if self.high is None else self.high * by,
        )

    def all_factors(self):
        """The Polys 1, x - low, high - x and (x - low) * (high - x), as far as the ends are there."""
        found = [Poly([1])]
        if self.low is not None:
            found.append(Poly([-self.low, 1]))
        if self.high is not None:
            found.append(Poly([self.high, -1]))
            found.append(found[1] * found[2])
        return found

    def factors(self, parity):
        """The factors whose degree is even (parity 0) or odd (parity 1)."""
        if not is_whole(parity) or parity not in (0, 1):
            raise NoNumber("parity")
        return [factor for factor in self.all_factors() if factor.degree % 2 == parity]
