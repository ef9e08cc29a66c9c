"""The real roots of polynomials, counted once each, and the sign of polynomials on a place."""

from momentrows.errors import NoNumber, NoPoly
from momentrows.ratios import is_number, ratio_of, whole_parts
from momentrows.spans import narrowed, points_between, sign_at, simple_part, spans


def roots_in(p, low, high):
    """How many different real roots x of p have low <= x <= high."""
    many = roots_after(p, low, high)
    if low is None or (high is not None and low > high):
        return many
    if _is_root(p, low):
        return many + 1
    return many


def roots_after(p, low, high):
    """How many different real roots x of p have low < x <= high."""
    if p.degree < 0:
        raise NoPoly()
    start = _end(low, "low")
    end = _end(high, "high")
    if start is not None and end is not None and start >= end:
        return 0
    many = len(spans(simple_part(p), start, end))
    if end is not None and _is_root(p, end):
        return many + 1
    return many


def isolated(p, *, width):
    """An interval of at most this width for each different real root, in ascending order."""
    if p.degree < 0:
        raise NoPoly()
    if not is_number(width) or width <= 0:
        raise NoNumber("width")
    tops = simple_part(p)
    return [narrowed(tops, span, ratio_of(width)) for span in spans(tops, None, None)]


def is_never_below(p, place):
    """Whether p(x) >= 0 at every x of the place."""
    return below_at(p, place) is None


def below_at(p, place):
    """A number x of the place with p(x) < 0, or None if there is none."""
    if p.degree < 0:
        return None
    tops = whole_parts(p.coefficients)[0]
    # The sign does not change between two neighbouring roots, and at an end it is 0 or the sign beside it.
    for x in points_between(simple_part(p), place.low, place.high):
        if sign_at(tops, x) < 0:
            return x
    return None


def _end(number, word):
    """The end of an interval as a Ratio, or None."""
    if number is None:
        return None
    if not is_number(number):
        raise NoNumber(word)
    return ratio_of(number)


def _is_root(p, x):
    return sign_at(whole_parts(p.coefficients)[0], ratio_of(x)) == 0
