"""Whether a row has a lot in a place, and what shows it: a lot, or a bar."""

from momentrows.ends import end_lot, first_bad, first_miss, lot_with
from momentrows.errors import NoBar, NoLot
from momentrows.polys import Poly
from momentrows.ratios import Ratio
from momentrows.rows import mean, row_numbers


class Bar:
    """Polys that show that a row has no lot in a place."""

    def __init__(self, factor, base, other=None):
        self.factor = factor
        self.base = base
        self.other = other

    def product(self):
        """The Poly factor * base * base."""
        return self.factor * self.base * self.base


def has_lot(row, place):
    """Whether the row has a lot in the place."""
    numbers = row_numbers(row)
    bad = first_bad(numbers, place)
    return bad is None or _is_kept(numbers, bad)


def lot_of(row, place):
    """A lot of the row in the place with as few points as possible, or None."""
    numbers = row_numbers(row)
    bad = first_bad(numbers, place)
    if bad is None:
        return _lot_inside(numbers, place)
    if _is_kept(numbers, bad):
        return lot_with(numbers, bad[0] * bad[1])
    return None


def fewest(row, place):
    """The least count of points of a lot of the row in the place, or None."""
    numbers = row_numbers(row)
    bad = first_bad(numbers, place)
    if bad is None:
        return (len(numbers) + 1) // 2
    if _is_kept(numbers, bad):
        return bad[0].degree + bad[1].degree
    return None


def check_lot(row, place, lot):
    """Raises NoLot if the lot is not one of the row in the place."""
    numbers = row_numbers(row)
    if not lot.is_in(place):
        raise NoLot("place")
    many = min(lot.count, len(numbers))
    if list(lot.begin[:many]) != numbers[:many] or first_miss(numbers, lot.poly) is not None:
        raise NoLot("row")


def check_bar(row, place, bar):
    """Raises NoBar if the bar does not show that the row has no lot in the place."""
    numbers = row_numbers(row)
    if not any([bar.factor == u for u in place.all_factors()]):
        raise NoBar("factor")
    square = bar.product()
    if square.degree >= len(numbers):
        raise NoBar("degree")
    if bar.other is None:
        if mean(numbers, square) >= 0:
            raise NoBar("mean")
        return
    mixed = bar.factor * bar.base * bar.other
    if mixed.degree >= len(numbers):
        raise NoBar("degree")
    if mean(numbers, square) != 0:
        raise NoBar("mean")
    if mean(numbers, mixed) == 0:
        raise NoBar("other")


def bar_of(row, place):
    """A bar that shows that the row has no lot in the place, or None if it has one."""
    numbers = row_numbers(row)
    bad = first_bad(numbers, place)
    if bad is None:
        return None
    u, p, worth = bad
    if worth < 0:
        return Bar(u, p)
    miss = first_miss(numbers, u * p)
    if miss is None:
        return None
    return Bar(u, p, Poly([0] * miss + [1]))


def _is_kept(numbers, bad):
    """Whether the first step with a worth not above 0 leaves the row a lot."""
    return first_miss(numbers, bad[0] * bad[1]) is None


def _lot_inside(numbers, place):
    """A lot with as few points as possible of a row that is inside."""
    if place.is_line() and len(numbers) % 2 == 1:
        # On the line an odd number may be any; with it there are no more points, and one lot alone.
        return end_lot(numbers + [Ratio(0)], place, True)
    return end_lot(numbers, place, True)
