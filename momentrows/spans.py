"""Open intervals that hold one root each, found by Descartes' rule of signs.

A span is a tuple of two Ratios, the ends of such an interval. Polynomials are lists of integers, as in
momentrows.whole; "simple" ones have no repeated factor. None as an end means that there is no end.
"""

from math import lcm

from momentrows.ratios import Ratio, whole_parts
from momentrows.whole import (
    around, common_tops, first_powers, long_division, moved_tops, primitive, sign_changes, slope_of, value_parts,
)


def simple_part(p):
    """The simple polynomial with the same roots as the Poly p, which is not zero."""
    tops = primitive(whole_parts(p.coefficients)[0])
    return long_division(tops, common_tops(tops, slope_of(tops)))[0]


def sign_at(tops, x):
    """An integer above, at or below 0, as the value at the Ratio x is."""
    return value_parts(tops, x)[0]


def spans(tops, low, high):
    """A span for each root of the simple polynomial with low < root < high, in ascending order.

    The spans do not overlap. No end of a span is a root, unless it is low or high.
    """
    rest = tops[1:] if tops[0] == 0 else tops
    mirrored = [-rest[k] if k % 2 == 1 else rest[k] for k in range(len(rest))]
    far = _power_of_two(_bound_exponent(rest))
    near = _power_of_two(-_bound_exponent(rest[::-1]))
    start, end = _clipped(low, high, -far, -near)
    left = [(-b, -a) for a, b in _spans_above_zero(mirrored, -end, -start)[::-1]]
    start, end = _clipped(low, high, -near, near)
    middle = [(start, end)] if tops[0] == 0 and start < 0 and end > 0 else []
    start, end = _clipped(low, high, near, far)
    right = _spans_above_zero(rest, start, end)
    return left + middle + right


def narrowed(tops, span, width):
    """An interval of at most this width around the root of the span; its ends are equal if they are the root."""
    low, high = span
    before = _sign_after(tops, low)
    bits = 2
    while high - low > width:
        # Each time that the chord shows where the root is, it is trusted twice as far.
        enough = _exponent(high - low) - _exponent(width) + 4
        found = _part_by_chord(tops, low, high, before, bits if bits < enough else enough)
        if found is None:
            bits = max(2, bits // 2)
            found = _half(tops, low, high, before)
        else:
            bits = bits * 2
        low, high = found
    return low, high


def points_between(tops, low, high):
    """A Ratio in each of the gaps into which the roots divide a place without its ends; none is a root."""
    found = spans(tops, low, high)
    if len(found) == 0:
        return [_inner_point(low, high)]
    # Only the first low end and the last high end can be an end of the place, which may be a root.
    found[0] = _inner_span(tops, found[0])
    found[-1] = _inner_span(tops, found[-1])
    return [start for start, end in found] + [found[-1][1]]


def grid(size):
    """A power of 2 that is above 1 / 32 and below 1 / 8 of a size above 0."""
    return _power_of_two(_exponent(size) - 4)


def _power_of_two(exponent):
    """The power of 2 with an integer as its exponent."""
    if exponent < 0:
        return Ratio(1, 1 << -exponent)
    return Ratio(1 << exponent)


def _bound_exponent(tops):
    """An exponent with every root, also every complex one, nearer to 0 than that power of 2.

    No root is farther from 0 than twice the greatest of the numbers |coefficient n - k / coefficient n| ** (1 / k),
    where n is the degree.
    """
    last = len(tops) - 1
    found = None
    for k in range(1, len(tops)):
        if tops[last - k] != 0:
            bits = tops[last - k].bit_length() - tops[last].bit_length() + 1
            exponent = -(-bits // k) + 1
            if found is None or exponent > found:
                found = exponent
    return 0 if found is None else found


def _clipped(low, high, least, most):
    """The part from least to most of the interval from low to high; if there is none, its ends are not in order."""
    start = least if low is None or low < least else low
    end = most if high is None or high > most else high
    return start, end


def _spans_above_zero(tops, low, high):
    """The spans between two Ratios that are above 0; none if low is not below high."""
    if low >= high:
        return []
    found = []
    waiting = [(low, high)]
    while len(waiting) > 0:
        start, end = waiting.pop()
        many = _most_roots(tops, start, end)
        if many == 1:
            found.append((start, end))
        if many > 1:
            middle = _split(tops, start, end)
            waiting.append((middle, end))
            waiting.append((start, middle))
    return found


def _most_roots(tops, low, high):
    """At least the count of the roots between low and high, and just this count if it is 0 or 1.

    These are the sign changes of the polynomial in t that has the value at (low * t + high) / (t + 1), times
    (t + 1) ** degree. For a simple polynomial they become 0 or 1 when the interval is short enough.
    """
    bottom = lcm(low.bottom, high.bottom)
    start = low.top * (bottom // low.bottom)
    size = high.top * (bottom // high.bottom) - start
    inner = around(tops, start, bottom)
    sizes = first_powers(size, len(tops))
    turned = [inner[k] * sizes[k] for k in range(len(tops))][::-1]
    return sign_changes(moved_tops(turned, -1))


def _split(tops, low, high):
    """A number between low and high, which are above 0, that is no root and divides them well.

    Ends of very unlike size are divided by a power of 2 between them. The number has few bits where that is enough.
    """
    gap = _exponent(high) - _exponent(low)
    if gap >= 4:
        step = _power_of_two((_exponent(high) + _exponent(low)) // 2)
        found = step
    else:
        step = grid(high - low)
        found = _middle(low, high)
    # One of these must do, since there are more of them than roots.
    part = step * _power_of_two(-len(tops).bit_length())
    for _ in range(len(tops)):
        if sign_at(tops, found) != 0:
            return found
        found = found + part
    return found


def _exponent(number):
    """An exponent e with 2 ** (e - 1) < number < 2 ** (e + 1), for a Ratio above 0."""
    return number.top.bit_length() - number.bottom.bit_length()


def _middle(low, high):
    """A number that is at most 1 / 8 of the distance below the exact middle, with few bits."""
    step = grid(high - low)
    return step * ((low + high) // (step * 2))


def _half(tops, low, high, before):
    """The part of the span with its root; before is the sign between low and the root."""
    middle = _middle(low, high)
    now = sign_at(tops, middle)
    if now == 0:
        return middle, middle
    if (now > 0) == (before > 0):
        return middle, high
    return low, middle


def _part_by_chord(tops, low, high, before, bits):
    """The part of the span, 3 / 2 ** bits of its size, in which the chord has its root.

    None if the root of the polynomial does not lie there, and the root itself twice if it is an end of the part.
    """
    top, under = value_parts(tops, low)
    top_high, under_high = value_parts(tops, high)
    if top == 0 or top_high == 0 or (top > 0) == (top_high > 0):
        return None
    left = abs(top) * under_high
    at = (left << bits) // (left + abs(top_high) * under)
    step = (high - low) * Ratio(1, 1 << bits)
    start = low if at < 2 else low + step * (at - 1)
    end = high if at + 2 >= 1 << bits else low + step * (at + 2)
    first = sign_at(tops, start)
    last = sign_at(tops, end)
    if first == 0:
        return start, start
    if last == 0:
        return end, end
    if (first > 0) == (before > 0) and (last > 0) != (before > 0):
        return start, end
    return None


def _sign_after(tops, x):
    """The sign on the right of x and near it, for a simple polynomial."""
    now = sign_at(tops, x)
    if now == 0:
        return sign_at(slope_of(tops), x)
    return now


def _inner_point(low, high):
    """A number between the ends of a place."""
    if low is None:
        return Ratio(0)
    if high is None:
        return low + 1
    return _middle(low, high)


def _inner_span(tops, span):
    """A span for the same root with other ends that lie inside of this one."""
    low, high = span
    before = _sign_after(tops, low)
    while low == span[0] or high == span[1]:
        start, end = _half(tops, low, high, before)
        if start == end:
            return _middle(low, start), _middle(start, high)
        low, high = start, end
    return low, high
