"""How great the weight of one point can be, and how much weight can lie up to it."""

from momentrows.deciding import lot_of
from momentrows.ends import first_bad, lot_with, only_lot
from momentrows.errors import NoNumber, NoPoint, NotSegment, NoWeight
from momentrows.lots import lot_at
from momentrows.polys import Poly
from momentrows.ratios import Ratio, is_number, ratio_of
from momentrows.rows import row_numbers
from momentrows.spans import grid
from momentrows.steps import ladder_of, monic_poly
from momentrows.whole import first_powers, long_division, trimmed, value_parts


def most_at(row, place, x):
    """The least number that the weight at x does not exceed in any lot of the row in the place."""
    numbers = row_numbers(row)
    _check_number(x)
    _check_point(place, x)
    only = only_lot(numbers, place)
    if only is not None:
        return only.weight(x)
    return _tightest(numbers, place, ratio_of(x))[0]


def most_paper(row, place, x):
    """A Poly that is never below 0 on the place and 1 at x, with the mean most_at(row, place, x)."""
    numbers = row_numbers(row)
    _check_number(x)
    _check_point(place, x)
    if only_lot(numbers, place) is None:
        u, p = _tightest(numbers, place, ratio_of(x))[1:]
    else:
        u, p = _without_root(first_bad(numbers, place), ratio_of(x))
    paper = u * p * p
    return paper * Ratio(1).over(paper(x))


def with_point(row, place, x, weight):
    """A lot of the row in the place whose weight at x is at least this weight."""
    numbers = row_numbers(row)
    _check_number(x)
    if not is_number(weight) or weight < 0:
        raise NoNumber("weight")
    _check_point(place, x)
    only = only_lot(numbers, place)
    if only is not None:
        if weight > only.weight(x):
            raise NoWeight(only.weight(x))
        return only
    most = _tightest(numbers, place, ratio_of(x))[0]
    if weight >= most:
        raise NoWeight(most)
    if weight == 0:
        return lot_of(numbers, place)
    return _lot_with_point(numbers, place, ratio_of(x), _short_between(ratio_of(weight), most))


def extreme_lot(row, place, x):
    """The lot of the row in the segment whose weight at x is most_at(row, place, x)."""
    numbers = row_numbers(row)
    _check_segment(place)
    _check_number(x)
    _check_point(place, x)
    only = only_lot(numbers, place)
    if only is not None:
        return only
    # The means of the paper are the weight at x alone, so it is 0 at all other points.
    most, u, p = _tightest(numbers, place, ratio_of(x))
    return lot_with(numbers, u * p * Poly([-x, 1]))


def share_fits(row, place, x, *, width):
    """Intervals of the least weight below x and of the greatest weight up to x, over all lots in the segment."""
    numbers = row_numbers(row)
    _check_segment(place)
    _check_number(x)
    if not is_number(width) or width <= 0:
        raise NoNumber("width")
    lot = extreme_lot(numbers, place, x)
    least, most = lot.share(None, x, width=width)
    weight = lot.weight(x)
    return (least - weight, most - weight), (least, most)


def _check_segment(place):
    if not place.is_segment():
        raise NotSegment()


def _check_number(x):
    if not is_number(x):
        raise NoNumber("x")


def _check_point(place, x):
    if x not in place:
        raise NoPoint()


def _tightest(numbers, place, x):
    """For a row that is inside: the most weight at x, and a factor u and a Poly p of the place that show it.

    The Poly u * p * p, divided by its value at x, has this weight as its mean. If several factors do, the degree of
    this Poly is as low as possible; then all roots of u and p are points of the lot with this weight at x.
    """
    best = None
    lowest = 0
    for u in place.all_factors():
        if u.degree < len(numbers) and u(x) > 0:
            tops, bound = _kernel(numbers, u, x)
            degree = u.degree + 2 * (len(tops) - 1)
            if best is None or bound < best[0] or (bound == best[0] and degree < lowest):
                best = (bound, u, monic_poly(tops))
                lowest = degree
    return best


def _kernel(numbers, u, x):
    """The sum of p(t) * p(x) / worth over the steps of u, as a polynomial in t times a number, and its bound at x.

    The sum is taken by the rule of Christoffel and Darboux: it is the difference of q(t) * p(x) and p(t) * q(x), over
    (t - x) and the worth of p, where p is the last step and q the one behind it.
    """
    last = (len(numbers) - 1 - u.degree) // 2
    # For the step behind the last one two more numbers may be needed; the sum is the same for all of them.
    ladder, scale = ladder_of(numbers + [Ratio(0), Ratio(0)], u)
    tops, top = ladder[last]
    beyond = ladder[last + 1][0]
    value, under = value_parts(tops, x)
    value_beyond = value_parts(beyond, x)[0]
    crossed = [number * value * x.bottom for number in beyond]
    for k in range(len(tops)):
        crossed[k] = crossed[k] - tops[k] * value_beyond
    # x is a root, so there is no rest, and the quotient by (x.bottom * t - x.top) is in integers.
    found = trimmed(long_division(crossed, [-x.top, x.bottom])[0])
    at, at_under = value_parts(found, x)
    return found, Ratio(under * beyond[-1] * top * at_under, scale * at).over(u(x))


def _without_root(bad, x):
    """The factor and the Poly of the step with worth 0, one of them divided by t - x if x is its root."""
    u, p, worth = bad
    root = Poly([-x, 1])
    if p(x) == 0:
        return u, p // root
    if u(x) == 0:
        return u // root, p
    return u, p


def _short_between(least, most):
    """A number from the least to below the most that is short if there is room between them."""
    step = grid(most - least)
    return step * -(-least // step)


def _lot_with_point(numbers, place, x, weight):
    """A lot of the row, in which x has at least this weight, which is above 0 and below the most."""
    powers = first_powers(x, len(numbers))
    rest = [numbers[k] - powers[k] * weight for k in range(len(numbers))]
    return lot_of(rest, place) + lot_at([x], [weight])
