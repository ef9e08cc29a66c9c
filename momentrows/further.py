"""The numbers that may follow a row, and their shares on a segment."""

from momentrows.ends import ends_of, first_bad, first_miss, only_lot
from momentrows.errors import NoMean, NoNumber, NoShares, NotSegment
from momentrows.polys import Poly
from momentrows.ratios import Ratio, is_number, ratio_of, whole_parts
from momentrows.rows import MOST_NUMBERS, mean, moved_row, row_numbers, scaled_row
from momentrows.steps import climbed


def next_fits(row, place):
    """The interval of all numbers that may follow the row."""
    numbers = row_numbers(row)
    only = only_lot(numbers, place)
    if only is not None:
        following = only.row(len(numbers))[-1]
        return following, following
    low = None
    high = None
    for u, tops, end in ends_of(numbers, place):
        if u.lead > 0:
            low = end
        else:
            high = end
    return low, high


def longest(row, place):
    """How many first numbers of the row have a lot in the place."""
    numbers = row_numbers(row)
    bad = first_bad(numbers, place)
    if bad is None:
        return len(numbers)
    poly = bad[0] * bad[1]
    miss = first_miss(numbers, poly)
    if miss is None:
        return len(numbers)
    return miss + poly.degree


def all_fits(row, place):
    """The intervals for the numbers 0, 1, .. of the row, as far as the numbers before have a lot."""
    numbers = row_numbers(row)
    many = longest(numbers, place)
    return [(Ratio(0), None)] + [next_fits(numbers[:k], place) for k in range(1, len(numbers)) if k <= many]


def mean_fits(row, place, p):
    """The interval of the means of p over all lots of the row in the place."""
    numbers = row_numbers(row)
    if p.degree > len(numbers):
        raise NoMean()
    low, high = next_fits(numbers, place)
    if p.degree < len(numbers):
        return mean(numbers, p), mean(numbers, p)
    known = mean(numbers, Poly(p.coefficients[:-1]))
    if p.lead < 0:
        low, high = high, low
    return (
        None if low is None else known + p.lead * low,
        None if high is None else known + p.lead * high,
    )


def shares(row, place):
    """The shares of the numbers m1, m2, .. on a segment, up to the first that is 0 or 1."""
    numbers = row_numbers(row)
    if not place.is_segment():
        raise NotSegment()
    # This raises the error of a row that has no lot.
    only_lot(numbers, place)
    found = []
    gap = None
    for k, u, tops, top, bottom in climbed(numbers, place):
        worth = Ratio(top, tops[-1] * bottom)
        # The two worths of a number are its distances from the low and from the high end.
        if u.lead > 0:
            gap = worth
        else:
            found.append(gap.over(gap + worth))
    return found


def row_from(total, parts, place):
    """The row that begins with the total and has these shares on the segment."""
    if not place.is_segment():
        raise NotSegment()
    if not is_number(total) or total <= 0:
        raise NoNumber("total")
    _check_shares(parts)
    unit = scaled_row(_unit_row([ratio_of(share) for share in parts]), place.high - place.low)
    return [number * total for number in moved_row(unit, place.low)]


def _check_shares(parts):
    if not isinstance(parts, (list, tuple)) or len(parts) >= MOST_NUMBERS:
        raise NoShares(-1)
    for k in range(len(parts)):
        if not is_number(parts[k]) or parts[k] < 0 or parts[k] > 1:
            raise NoShares(k)
        if k > 0 and (parts[k - 1] == 0 or parts[k - 1] == 1):
            raise NoShares(k)


def _unit_row(parts):
    """The row with these shares on the segment from 0 to 1 that begins with 1.

    It needs no division: each number is a sum of products of the links, which are the shares times what the share
    before leaves over. In every turn sum number k becomes the sum over the numbers j = 0 .. k of link j times the sum
    number j before; the first of them is the next number of the row, and the turns go on with the others.
    """
    links = [parts[k] if k == 0 else parts[k] * (1 - parts[k - 1]) for k in range(len(parts))]
    tops, bottom = whole_parts(links)
    found = [Ratio(1)]
    sums = [1] * len(tops)
    scale = bottom
    while len(sums) > 0:
        total = 0
        later = []
        for k in range(len(sums)):
            total = total + tops[k] * sums[k]
            later.append(total)
        found.append(Ratio(later[0], scale))
        sums = later[1:]
        scale = scale * bottom
    return found
