"""The lots at the two ends of the next number of a row, and what they tell of the means of a Poly."""

from momentrows.ends import end_lot, end_parts, only_lot
from momentrows.errors import NoNumber, NoShape
from momentrows.points import are_crossing
from momentrows.ratios import is_whole, whole_parts
from momentrows.roots import is_never_below
from momentrows.rows import mean, row_numbers

# The document's limit for the number of a derivative.
MOST_SLOPES = 20


def lower_lot(row, place):
    """The lot of the row in the place with the least next number, or None."""
    return _principal_lot(row_numbers(row), place, True)


def upper_lot(row, place):
    """The lot of the row in the place with the greatest next number, or None."""
    return _principal_lot(row_numbers(row), place, False)


def is_shaped(f, k, place):
    """Whether derivative number k of the Poly is never below 0 on the place."""
    if not is_whole(k) or k < 0 or k > MOST_SLOPES:
        raise NoNumber("k")
    found = f
    for _ in range(k):
        found = found.derivative()
    return is_never_below(found, place)


def shaped_fits(row, place, f):
    """The interval of the means of the Poly f over all lots of the row in the place."""
    numbers = row_numbers(row)
    is_rising = _is_rising(f, len(numbers), place)
    only = only_lot(numbers, place)
    if only is not None:
        return only.mean(f), only.mean(f)
    if f.degree < len(numbers):
        return mean(numbers, f), mean(numbers, f)
    low = _mean_at_end(numbers, place, f, is_rising)
    high = _mean_at_end(numbers, place, f, not is_rising)
    return low, high


def shaped_papers(row, place, f):
    """A Poly under f and a Poly over f on the place, with the means shaped_fits(row, place, f), for a row inside."""
    numbers = row_numbers(row)
    is_rising = _is_rising(f, len(numbers), place)
    if only_lot(numbers, place) is not None:
        return None, None
    if f.degree < len(numbers):
        return f, f
    under = _paper_at_end(numbers, place, f, is_rising)
    over = _paper_at_end(numbers, place, f, not is_rising)
    return under, over


def alternate(one, other):
    """Whether the points of two lots lie strictly alternately."""
    return are_crossing(whole_parts(one.poly.coefficients)[0], whole_parts(other.poly.coefficients)[0])


def _principal_lot(numbers, place, is_low):
    """The lot at the low or the high end of the next number, or None."""
    only = only_lot(numbers, place)
    if only is not None:
        return only
    return end_lot(numbers, place, is_low)


def _is_rising(f, k, place):
    """Whether f is shaped for the number k; otherwise -f has to be."""
    if is_shaped(f, k, place):
        return True
    if not is_shaped(-f, k, place):
        raise NoShape()
    return False


def _mean_at_end(numbers, place, f, is_low):
    """The mean of f over the lot at this end of a row that is inside, or None."""
    lot = end_lot(numbers, place, is_low)
    if lot is None:
        return None
    return lot.mean(f)


def _paper_at_end(numbers, place, f, is_low):
    """The Poly that touches f at the points of the lot at this end of a row that is inside, or None.

    It crosses f at ends of the place alone, for f minus it is the product of u * p * p and a Poly that, like the
    derivative of f for which f is shaped, has one sign on the place.
    """
    parts = end_parts(numbers, place, is_low)
    if parts is None:
        return None
    u, p = parts
    return f % (u * p * p)
