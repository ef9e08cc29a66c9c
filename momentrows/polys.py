"""Polynomials in one variable with exact fractions as coefficients."""

from momentrows.errors import NoDivisor, NoNumber, NoPoly
from momentrows.ratios import Ratio, is_number, is_whole, ratio_of, whole_parts
from momentrows.whole import common_tops, first_powers, long_division, moved_tops, trimmed, value_parts

# The document's limit for an exponent.
MOST_POWER = 20


class Poly:
    """The polynomial with these coefficients, the constant first."""

    def __init__(self, coefficients):
        if not isinstance(coefficients, (list, tuple)):
            raise NoPoly()
        for number in coefficients:
            if not is_number(number):
                raise NoPoly()
        self.coefficients = tuple(trimmed([ratio_of(number) for number in coefficients]))
        self.degree = len(self.coefficients) - 1
        self.lead = Ratio(0)
        if self.degree >= 0:
            self.lead = self.coefficients[self.degree]

    def __call__(self, x):
        if not is_number(x):
            raise NoNumber("x")
        at = ratio_of(x)
        tops, bottom = whole_parts(self.coefficients)
        # All is brought over one bottom, so that only the last value has to be shortened.
        total, scale = value_parts(tops, at)
        return Ratio(total, bottom * scale)

    def __eq__(self, other):
        return isinstance(other, Poly) and self.coefficients == other.coefficients

    def __add__(self, other):
        if not _is_operand(other):
            return NotImplemented
        return _sum(self, poly_of(other))

    def __radd__(self, other):
        if not _is_operand(other):
            return NotImplemented
        return _sum(poly_of(other), self)

    def __sub__(self, other):
        if not _is_operand(other):
            return NotImplemented
        return _sum(self, -poly_of(other))

    def __rsub__(self, other):
        if not _is_operand(other):
            return NotImplemented
        return _sum(poly_of(other), -self)

    def __mul__(self, other):
        if not _is_operand(other):
            return NotImplemented
        return _product(self, poly_of(other))

    def __rmul__(self, other):
        if not _is_operand(other):
            return NotImplemented
        return _product(poly_of(other), self)

    def __neg__(self):
        return Poly([-number for number in self.coefficients])

    def __floordiv__(self, other):
        if not _is_operand(other):
            return NotImplemented
        return _divided(self, poly_of(other))[0]

    def __mod__(self, other):
        if not _is_operand(other):
            return NotImplemented
        return _divided(self, poly_of(other))[1]

    def __pow__(self, other):
        return self.power(other)

    def power(self, k):
        """The power with the exponent k."""
        if not is_whole(k) or k < 0 or k > MOST_POWER:
            raise NoNumber("k")
        found = Poly([1])
        for _ in range(k):
            found = _product(found, self)
        return found

    def derivative(self):
        """The derivative."""
        return Poly([self.coefficients[k] * k for k in range(1, len(self.coefficients))])

    def monic(self):
        """The polynomial divided by its lead; zero stays zero."""
        if self.degree < 0:
            return self
        return Poly([number.over(self.lead) for number in self.coefficients])

    def moved(self, by):
        """The Poly with the value of this one at x - by at every x."""
        if not is_number(by):
            raise NoNumber("by")
        way = ratio_of(by)
        tops, bottom = whole_parts(self.coefficients)
        # As a polynomial in way.bottom * x all of it stays in integers until the end.
        scales = first_powers(way.bottom, len(tops))
        turned = scales[::-1]
        shifted = moved_tops([tops[k] * turned[k] for k in range(len(tops))], way.top)
        return Poly([Ratio(shifted[k] * scales[k], bottom * scales[-1]) for k in range(len(tops))])


def common(p, q):
    """The monic Poly of the greatest degree that divides both."""
    return Poly(common_tops(whole_parts(p.coefficients)[0], whole_parts(poly_of(q).coefficients)[0])).monic()


def poly_of(q):
    """The Poly itself, or the number as a constant Poly."""
    if isinstance(q, Poly):
        return q
    return Poly([q])


def _is_operand(x):
    return isinstance(x, Poly) or is_number(x)


def _sum(one, other):
    size = max(len(one.coefficients), len(other.coefficients))
    return Poly([_coefficient(one, k) + _coefficient(other, k) for k in range(size)])


def _coefficient(p, k):
    if k <= p.degree:
        return p.coefficients[k]
    return Ratio(0)


def _product(one, other):
    tops, bottom = whole_parts(one.coefficients)
    factors, under = whole_parts(other.coefficients)
    size = len(tops) + len(factors)
    found = [0] * size
    for k in range(len(tops)):
        for j in range(len(factors)):
            found[k + j] = found[k + j] + tops[k] * factors[j]
    return Poly([Ratio(top, bottom * under) for top in found])


def _divided(p, q):
    """The quotient and the remainder."""
    if q.degree < 0:
        raise NoDivisor()
    tops, bottom = whole_parts(p.coefficients)
    divisor, under = whole_parts(q.coefficients)
    quotient, rest, scale = long_division(tops, divisor)
    return (
        Poly([Ratio(top * under, scale * bottom) for top in quotient]),
        Poly([Ratio(top, scale * bottom) for top in rest]),
    )
