"""What a row of Ratios decides: whether it is at the border of a place, its only lot there, and otherwise its ends.

"Inside" and "border" are the kinds of rows in momentrows.steps. The ends of a row that is inside are those of the
interval of its next number.
"""

from momentrows.errors import NoLotThere
from momentrows.lots import Lot, Sure
from momentrows.ratios import Ratio, whole_parts
from momentrows.rows import paired
from momentrows.steps import climbed, ladder_of, monic_poly


def first_bad(numbers, place):
    """The factor u, the Poly p and the worth of the first step with a worth not above 0; None if there is none."""
    for k, u, tops, top, bottom in climbed(numbers, place):
        if top <= 0:
            return u, monic_poly(tops), Ratio(top, tops[-1] * bottom)
    return None


def first_miss(numbers, poly):
    """The first j for which the mean of poly * x ** j is not 0, or None.

    If poly is u * p of the first step with a worth not above 0, the row has a lot exactly if there is no such j. A
    worth below 0 is the mean of u * p * x ** j for j the degree of p, too.
    """
    line = whole_parts(numbers)[0]
    tops = whole_parts(poly.coefficients)[0]
    for j in range(len(line) - poly.degree):
        if paired(tops, line[j:]) != 0:
            return j
    return None


def only_lot(numbers, place):
    """The only lot of a row at the border, and None for a row that is inside."""
    bad = first_bad(numbers, place)
    if bad is None:
        return None
    poly = bad[0] * bad[1]
    if first_miss(numbers, poly) is not None:
        raise NoLotThere()
    return lot_with(numbers, poly)


def lot_with(numbers, poly):
    """The lot of the row whose points are the roots of the Poly."""
    return Lot(poly.monic(), Sure(numbers[:poly.degree]))


def ends_of(numbers, place):
    """The ends of a row that is inside, each as a tuple (u, tops, end).

    The roots of u * tops are the points of the lot at this end. The lead of u is above 0 at the low end and below 0 at
    the high end.
    """
    found = []
    for u in place.factors(len(numbers) % 2):
        ladder, scale = ladder_of(numbers + [Ratio(0)], u)
        tops, top = ladder[-1]
        # The next number counts in the worth as often as the lead of u says, which is 1 or -1.
        found.append((u, tops, Ratio(top, tops[-1] * scale) * -u.lead))
    return found


def end_parts(numbers, place, is_low):
    """For the low or the high end of a row that is inside, the factor u and the Poly p; None if there is no end."""
    for u, tops, end in ends_of(numbers, place):
        if (u.lead > 0) == is_low:
            return u, monic_poly(tops)
    return None


def end_lot(numbers, place, is_low):
    """The lot at the low or the high end of a row that is inside, or None if there is no end."""
    parts = end_parts(numbers, place, is_low)
    if parts is None:
        return None
    u, p = parts
    return lot_with(numbers, u * p)
