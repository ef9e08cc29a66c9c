"""Lots: finitely many points with weights above 0."""

from momentrows.errors import NoLot, NoNumber, TooMany
from momentrows.points import closed_in, continued, has_real_roots, many_above, weight_tops
from momentrows.polys import Poly, common
from momentrows.ratios import Ratio, is_number, is_whole, ratio_of, whole_parts
from momentrows.rows import moved_row, paired, scaled_row
from momentrows.spans import spans
from momentrows.steps import rungs
from momentrows.whole import first_powers, long_division

# The document's limits for the points of a lot and for the numbers of its row.
MOST_POINTS = 8
LAST_NUMBER = 60


class Sure:
    """Numbers that are known to belong to the roots of a Poly, with weights above 0.

    A lot that is made of them need not find this out, which takes long where the numbers are long.
    """

    def __init__(self, numbers):
        self.numbers = numbers


class Lot:
    """The lot whose points are the roots of poly and whose row begins with these numbers."""

    def __init__(self, poly, begin):
        numbers = begin.numbers if isinstance(begin, Sure) else _checked(poly, begin)
        self.poly = poly
        self.begin = tuple(numbers)
        self.count = poly.degree

    def __eq__(self, other):
        return isinstance(other, Lot) and self.poly == other.poly and self.begin == other.begin

    def __add__(self, other):
        if not isinstance(other, Lot):
            return NotImplemented
        poly = self.poly * (other.poly // common(self.poly, other.poly))
        if poly.degree > MOST_POINTS:
            raise TooMany()
        one = first_numbers(self, poly.degree)
        two = first_numbers(other, poly.degree)
        return Lot(poly, Sure([one[k] + two[k] for k in range(poly.degree)]))

    def __mul__(self, other):
        if not is_number(other) or other < 0:
            raise NoNumber("number")
        if other == 0:
            return Lot(Poly([1]), Sure([]))
        return Lot(self.poly, Sure([number * other for number in self.begin]))

    def row(self, d):
        """The numbers 0 .. d of the row."""
        if not is_whole(d) or d < 0 or d > LAST_NUMBER:
            raise NoNumber("d")
        return first_numbers(self, d + 1)

    def mean(self, p):
        """The sum of weight * p(point)."""
        factors, under = whole_parts(p.coefficients)
        # At every point p has the value of the rest that remains when it is divided by poly.
        rest, scale = long_division(factors, whole_parts(self.poly.coefficients)[0])[1:]
        line, bottom = whole_parts(self.begin)
        return Ratio(paired(rest, line), scale * under * bottom)

    def is_in(self, place):
        """Whether all points lie in the place."""
        if place.low is not None and self._many_from(place.low) < self.count:
            return False
        return place.high is None or self._many_above(place.high) == 0

    def has(self, x):
        """Whether x is a point."""
        return self.poly(x) == 0

    def weight(self, x):
        """The weight at x; 0 if x is no point."""
        if not self.has(x):
            return Ratio(0)
        tops, above, bottom = self._weight_parts()
        upper = Poly(above)
        slope = Poly(tops).derivative()
        return upper(x).over(slope(x) * bottom)

    def near(self, *, width):
        """For each point in ascending order an interval of it and one of its weight, as one tuple."""
        if not is_number(width) or width <= 0:
            raise NoNumber("width")
        return self._near(0, self.count, ratio_of(width))

    def share(self, low, high, *, width):
        """An interval of the weight of all points from low to high."""
        if low is not None and not is_number(low):
            raise NoNumber("low")
        if high is not None and not is_number(high):
            raise NoNumber("high")
        if not is_number(width) or width <= 0:
            raise NoNumber("width")
        start = 0 if low is None else self.count - self._many_from(low)
        end = self.count if high is None else self.count - self._many_above(high)
        least = Ratio(0)
        most = Ratio(0)
        for found in self._near(start, end, ratio_of(width).over(MOST_POINTS)):
            least = least + found[2]
            most = most + found[3]
        return least, most

    def moved(self, by):
        """The points x + by with the same weights."""
        if not is_number(by):
            raise NoNumber("by")
        if self.count == 0:
            return self
        return Lot(self.poly.moved(by), Sure(moved_row(self.begin, by)))

    def stretched(self, by):
        """The points x * by with the same weights."""
        if not is_number(by) or by == 0:
            raise NoNumber("by")
        if self.count == 0:
            return self
        powers = first_powers(ratio_of(by), self.count + 1)[::-1]
        parts = self.poly.coefficients
        poly = Poly([parts[k] * powers[k] for k in range(len(parts))])
        return Lot(poly, Sure(scaled_row(self.begin, by)))

    def _many_above(self, x):
        """How many points are above x."""
        return many_above(whole_parts(self.poly.coefficients)[0], ratio_of(x))

    def _many_from(self, x):
        """How many points are at x or above it."""
        if self.has(x):
            return self._many_above(x) + 1
        return self._many_above(x)

    def _weight_parts(self):
        """Integer polynomials tops and above, and a bottom: tops is a multiple of poly, and at a point the weight is
        the value of above, over that of the slope of tops, over the bottom."""
        tops = whole_parts(self.poly.coefficients)[0]
        line, bottom = whole_parts(self.begin)
        return tops, weight_tops(tops, line), bottom

    def _near(self, start, end, width):
        """The intervals of the points start .. end - 1 and of their weights."""
        tops, above, bottom = self._weight_parts()
        return [closed_in(tops, above, bottom, span, width) for span in spans(tops, None, None)[start:end]]


def lot_at(points, weights):
    """The lot with these points and weights."""
    if not _are_points(points):
        raise NoLot("points")
    if not _are_numbers(weights, len(points)) or any([weight <= 0 for weight in weights]):
        raise NoLot("weights")
    poly = Poly([1])
    for x in points:
        poly = poly * Poly([-x, 1])
    begin = [Ratio(0)] * len(points)
    for j in range(len(points)):
        powers = first_powers(ratio_of(points[j]), len(points))
        begin = [begin[k] + powers[k] * weights[j] for k in range(len(points))]
    return Lot(poly, Sure(begin))


def first_numbers(lot, many):
    """So many first numbers of the row of the lot."""
    return continued(whole_parts(lot.poly.coefficients)[0], lot.begin, many)


def _checked(poly, begin):
    """The numbers that belong to the roots of the Poly with weights above 0, as a list of Ratios."""
    if not isinstance(poly, Poly) or poly.lead != 1 or poly.degree > MOST_POINTS:
        raise NoLot("poly")
    tops = whole_parts(poly.coefficients)[0]
    are_numbers = _are_numbers(begin, poly.degree)
    numbers = [ratio_of(number) for number in begin] if are_numbers else []
    # Weights above 0 show that the roots are real and different, which would take longer to find out without them.
    if are_numbers and _have_weights(tops, numbers):
        return numbers
    if not has_real_roots(tops):
        raise NoLot("roots")
    if not are_numbers:
        raise NoLot("begin")
    raise NoLot("weights")


def _are_numbers(numbers, many):
    """Whether this is a list or tuple of so many numbers."""
    if not isinstance(numbers, (list, tuple)) or len(numbers) != many:
        return False
    return all([is_number(number) for number in numbers])


def _are_points(points):
    """Whether this is a list or tuple of different numbers that are not too many."""
    if not isinstance(points, (list, tuple)) or len(points) > MOST_POINTS or not _are_numbers(points, len(points)):
        return False
    return not any([points[k] in points[:k] for k in range(len(points))])


def _have_weights(tops, numbers):
    """Whether the polynomial and the numbers belong to points with weights above 0."""
    size = len(numbers)
    if size == 0:
        return True
    return rungs(whole_parts(continued(tops, numbers, 2 * size - 1))[0])[-1][1] > 0
