"""Polynomials whose roots are all real and different, as the points of a lot are.

They are lists of integers, as in momentrows.whole, with the last one above 0. No root is computed: what is asked of
the roots is read off the signs of coefficients, or of rows that belong to the polynomials.
"""

from math import lcm

from momentrows.ratios import Ratio, whole_parts
from momentrows.rows import paired
from momentrows.spans import grid, narrowed
from momentrows.steps import rungs
from momentrows.whole import around, first_powers, sign_changes, slope_of


def continued(tops, begin, many):
    """So many first numbers of the row of Ratios that begins so and goes on by mean(tops * x ** j) = 0."""
    size = len(tops) - 1
    found = list(begin)
    while len(found) < many:
        line, bottom = whole_parts(found[len(found) - size:])
        found.append(Ratio(-paired(tops[:size], line), bottom * tops[size]))
    return found[:many]


def has_real_roots(tops):
    """Whether all roots of any polynomial are real and different."""
    return len(tops) == 1 or _has_only_rises(tops, slope_of(tops))


def are_crossing(tops, others):
    """Whether the roots of the two lie strictly alternately, if all of them are real and different."""
    if len(tops) < len(others):
        tops, others = others, tops
    if len(tops) == 1:
        return True
    rest = list(others)
    if len(tops) == len(others):
        rest = [others[k] * tops[-1] - tops[k] * others[-1] for k in range(len(tops) - 1)]
    return _has_only_rises(tops, rest) or _has_only_rises(tops, [-number for number in rest])


def many_above(tops, x):
    """How many roots are above the Ratio x."""
    # Descartes' rule of signs is exact where all roots are real.
    return sign_changes(around(tops, x.top, x.bottom))


def weight_tops(tops, line):
    """The integer polynomial whose value is the weight times the value of the slope of tops, at every root.

    The integers of the line are the first numbers of the row, as many as there are roots.
    """
    size = len(tops) - 1
    return [paired(tops[k + 1:], line) for k in range(size)]


def closed_in(tops, above, bottom, span, width):
    """An interval for the root of the span and one for its weight, both at most this wide, as four Ratios.

    The weight is the value of above, over that of the slope of tops, over the bottom.
    """
    slope = slope_of(tops)
    aim = width
    bits = 8
    low, high = narrowed(tops, span, aim)
    least, most = _weight_between(above, slope, bottom, low, high)
    while least is None or (most - least) * 2 > width:
        aim = aim * Ratio(1, 1 << bits)
        bits = bits * 2
        low, high = narrowed(tops, (low, high), aim)
        least, most = _weight_between(above, slope, bottom, low, high)
    # What is still free of the width serves to keep the numbers short.
    step = grid(width)
    return low, high, step * (least // step), step * -(-most // step)


def _has_only_rises(tops, others):
    """Whether all roots of tops are real and different, and others over tops has a residue above 0 at each.

    The coefficients of this quotient by powers of 1 / x are the row of the residues. It is taken times powers of the
    last item of tops, so that all stays in integers. The others are shorter than tops.
    """
    size = len(tops) - 1
    turned = [0] * (size - len(others)) + others[::-1] + [0] * (size - 1)
    powers = first_powers(tops[size], 2 * size - 1)
    row = []
    for k in range(2 * size - 1):
        total = turned[k] * powers[k]
        for i in range(1, size + 1):
            if i <= k:
                total = total - tops[size - i] * row[k - i] * powers[i - 1]
        row.append(total)
    return rungs(row)[-1][1] > 0


def _weight_between(above, slope, bottom, low, high):
    """An interval for the weight of a root from low to high; None twice if these are too far from one another."""
    shared = lcm(low.bottom, high.bottom)
    start = low.top * (shared // low.bottom)
    end = high.top * (shared // high.bottom)
    least, most = _values_near(above, start + end, 2 * shared, end - start)
    steepest, flattest = _values_near(slope, start + end, 2 * shared, end - start)
    if steepest <= 0 and flattest >= 0:
        return None, None
    if flattest < 0:
        least, most, steepest, flattest = -most, -least, -flattest, -steepest
    return Ratio(max(0, least), flattest * bottom), Ratio(most, steepest * bottom)


def _values_near(tops, top, bottom, reach):
    """Two integers with all values from (top - reach) / bottom to (top + reach) / bottom between them.

    Both are taken times bottom ** degree.
    """
    parts = around(tops, top, bottom)
    far = 0
    for part in parts[:0:-1]:
        far = (far + abs(part)) * reach
    return parts[0] - far, parts[0] + far
