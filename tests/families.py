"""Places, lots and rows on which several tests run. Points, weights and numbers are fractions of Python."""

from fractions import Fraction

from momentrows.errors import MeansError
from momentrows.lots import Lot, lot_at
from momentrows.polys import Poly
from tests.oracles import row_of
from tests.samples import Source, poly, ratio

HALF = Fraction(1, 2)
# Low and high ends, None for no end.
PLACES = [
    (None, None), (Fraction(0), None), (Fraction(-2), None), (Fraction(5, 3), None), (Fraction(0), Fraction(1)),
    (Fraction(-1), Fraction(1)), (Fraction(-7, 2), Fraction(-1, 3)), (Fraction(0), Fraction(1, 10 ** 400)),
]


def row(numbers):
    return [ratio(x) for x in numbers]


def lots(low, high):
    """Lists of points in the place: none, few and many, with the ends and without them."""
    start = Fraction(-3) if low is None else low
    size = Fraction(6) if high is None else high - start
    found = [[start + size * Fraction(k, 8) for k in picks] for picks in
             ([], [0], [8], [3], [0, 8], [1, 5], [0, 2, 7], [2, 5, 8], [0, 3, 4, 8], range(1, 7), range(9))]
    return found


def samples(low, high):
    """Rows of 1 to 13 numbers, inside, at the border and out."""
    source = Source(77)
    found = []
    for points in lots(low, high):
        weights = [Fraction(source.below(9) + 1, source.below(5) + 1) for _ in points]
        whole = row_of(points, weights, 13)
        found += [whole[:size] for size in (1, 2, 3, 4, 6, 9, 12, 13)]
        for at in (0, 1, 3, 6, 9, 12):
            for change in (Fraction(-1), Fraction(1, 10 ** 9), Fraction(2)):
                changed = list(whole)
                changed[at] += change
                found.append(changed)
    return found


def weights_of(points, seed=7):
    """Small and great weights, one for each point."""
    source = Source(seed)
    return [Fraction(source.below(9) + 1, source.below(5) + 1) * 10 ** (3 * source.below(3)) for _ in points]


def lot_of_fractions(points, weights):
    return lot_at([ratio(x) for x in points], [ratio(w) for w in weights])


def known_lots():
    """Tuples (points, weights, lot) for lots with rational points, of 0 to 8 points."""
    found = []
    for low, high in PLACES:
        for points in lots(low, high):
            if len(points) <= 8:
                weights = weights_of(points, len(found))
                found.append((points, weights, lot_of_fractions(points, weights)))
    points = [Fraction(x) for x in (-5, -2, 0, 1, 100)] + [Fraction(-1, 3), HALF, Fraction(7, 5)]
    return found + [(points, weights_of(points), lot_of_fractions(points, weights_of(points)))]


def power_sums(p, many):
    """The sums of the powers 0, 1, .. of the roots of a monic polynomial, by Newton's rule."""
    size = len(p) - 1
    found = [Fraction(size)]
    for k in range(1, many):
        total = -k * p[size - k] if k <= size else Fraction(0)
        found.append(total - sum(p[size - i] * found[k - i] for i in range(1, min(k - 1, size) + 1)))
    return found


IRRATIONAL = [[-2, 0, 1], [-1, -1, 1], [0, -2, 0, 1], [1, -3, 0, 1], [2, 0, -4, 0, 1], [0, 2, 0, -4, 0, 1],
              [2, 0, -16, 0, 20, 0, -8, 0, 1]]


def irrational_lots():
    """Lots whose points are no fractions, or not all of them."""
    found = [Lot(Poly([-2, 0, 1]), [3, 4]), Lot(Poly([-1, -1, 1]), [10 ** 9, 1]), Lot(Poly([0, -3, 0, 1]), [2, 0, 2])]
    found += [Lot(poly(p), row(power_sums([Fraction(x) for x in p], len(p) - 1))) for p in IRRATIONAL]
    return found + [lot.moved(ratio(Fraction(1, 3))).stretched(ratio(Fraction(-2, 7))) for lot in found]


def in_place(points, low, high):
    return all((low is None or low <= x) and (high is None or x <= high) for x in points)


def candidates(low, high):
    """Points of a place: its ends, points beside them and far from them, and points between."""
    start = Fraction(-3) if low is None else low
    size = Fraction(6) if high is None else high - start
    parts = (0, Fraction(1, 10 ** 30), Fraction(1, 8), Fraction(1, 3), HALF, Fraction(1))
    found = [start + size * part for part in parts]
    if high is None:
        found.append(Fraction(10 ** 20))
    return found


def raised(call):
    """The error that the call raises, or None."""
    try:
        call()
    except MeansError as error:
        return error
    return None
