"""The steps of a row in a place, which tell whether the row is inside, at the border or out."""

from math import lcm

from momentrows.polys import Poly
from momentrows.ratios import Ratio, whole_parts
from momentrows.rows import paired, row_numbers
from momentrows.whole import primitive


def steps(row, place):
    """The steps as tuples (k, u, p, worth), up to the first k with a worth that is not above 0."""
    return [
        (k, u, monic_poly(tops), Ratio(top, tops[-1] * bottom))
        for k, u, tops, top, bottom in climbed(row_numbers(row), place)
    ]


def kind(row, place):
    """("inside",), or ("out", k) or ("border", k) with the first k that has a worth not above 0."""
    found = climbed(row_numbers(row), place)
    last = found[-1][0]
    worths = [top for k, u, tops, top, bottom in found if k == last]
    if any([worth < 0 for worth in worths]):
        return "out", last
    if any([worth == 0 for worth in worths]):
        return "border", last
    return ("inside",)


def climbed(numbers, place):
    """The steps of a list of Ratios of any length, in their order, each as a tuple (k, u, tops, top, bottom).

    The Poly of the step is tops over its last item, and its worth is top over this item and the bottom, all above 0.
    """
    ladders = []
    for u in place.all_factors():
        ladder, scale = ladder_of(numbers, u)
        ladders.append((u, ladder, scale))
    found = []
    for k in range(len(numbers)):
        now = []
        for u, ladder, scale in ladders:
            if k >= u.degree and (k - u.degree) % 2 == 0:
                tops, top = ladder[(k - u.degree) // 2]
                now.append((k, u, tops, top, scale))
        found = found + now
        if any([step[3] <= 0 for step in now]):
            return found
    return found


def ladder_of(numbers, u):
    """The rungs of the factor u for a list of Ratios, and a scale.

    The worth of a rung (tops, top) is top over the last item of tops and over the scale.
    """
    whole, bottom = whole_parts(numbers)
    factors, under = whole_parts(u.coefficients)
    return rungs([paired(factors, whole[k:]) for k in range(len(whole) - u.degree)]), bottom * under


def monic_poly(tops):
    """The Poly with these coefficients, divided by the last one."""
    return Poly([Ratio(top, tops[-1]) for top in tops])


def rungs(numbers):
    """For s = 0, 1, .. the polynomial of degree s whose product with every one of a lower degree has the mean 0.

    The numbers are a row of integers. Each rung is a tuple (tops, top): tops are integers without a common divisor,
    the last one above 0, and the mean of tops * x ** s is top. The list ends with the last rung for which there are
    enough numbers, or with the first one whose top is not above 0.
    """
    found = []
    before = []
    tops = [1]
    under = 1
    for s in range((len(numbers) + 1) // 2):
        top = paired(tops, numbers[s:])
        found.append((tops, top))
        if top <= 0 or 2 * s + 2 >= len(numbers):
            return found
        beyond = paired(tops, numbers[s + 1:])
        before, tops, under = tops, _raised(before, tops, Ratio(top, under), Ratio(beyond, top)), top
    return found


def _raised(before, tops, up, beyond):
    """The tops of the next rung, from those of the last two.

    up is the top of the last rung over that of the one before it. beyond is the mean of tops * x ** (s + 1) over top.
    For monic p this is the rule: next p = (x - mean(x * p * p) / mean(p * p)) * p - c * p before, with c such that
    the mean of next p * p before is 0.
    """
    second = tops[-2] if len(tops) > 1 else 0
    move = beyond + Ratio(second, tops[-1])
    scale = lcm(move.bottom, up.bottom)
    found = [0] + [scale * number for number in tops]
    for k in range(len(tops)):
        found[k] = found[k] - move.top * (scale // move.bottom) * tops[k]
    for k in range(len(before)):
        found[k] = found[k] - up.top * (scale // up.bottom) * before[k]
    return primitive(found)
