"""Polynomials in one variable with exact fractions as coefficients."""

from math import gcd, lcm

from momentrows.errors import NoDivisor, NoNumber, NoPoly
from momentrows.ratios import Ratio, is_number, is_whole, ratio_of

# The document's limit for an exponent.
MOST_POWER = 20


class Poly:
    """The polynomial with these coefficients, the constant first."""

    def __init__(self, coefficients):
        if not isinstance(coefficients, (list, tuple)):
            raise NoPoly()
        for number in coefficients:
            if not is_number(number):
                raise NoPoly()
        self.coefficients = tuple(trimmed([ratio_of(number) for number in coefficients]))
        self.degree = len(self.coefficients) - 1
        self.lead = Ratio(0)
        if self.degree >= 0:
            self.lead = self.coefficients[self.degree]

    def __call__(self, x):
        if not is_number(x):
            raise NoNumber("x")
        at = ratio_of(x)
        tops, bottom = whole_parts(self)
        # All is brought over one bottom, so that only the last value has to be shortened.
        total = 0
        scale = 1
        for top in tops[::-1]:
            total = total * at.top + top * scale
            scale = scale * at.bottom
        return Ratio(total * at.bottom, bottom * scale)

    def __eq__(self, other):
        return isinstance(other, Poly) and self.coefficients == other.coefficients

    def __add__(self, other):
        if not _is_operand(other):
            return NotImplemented
        return _sum(self, poly_of(other))

    def __radd__(self, other):
        if not _is_operand(other):
            return NotImplemented
        return _sum(poly_of(other), self)

    def __sub__(self, other):
        if not _is_operand(other):
            return NotImplemented
        return _sum(self, -poly_of(other))

    def __rsub__(self, other):
        if not _is_operand(other):
            return NotImplemented
        return _sum(poly_of(other), -self)

    def __mul__(self, other):
        if not _is_operand(other):
            return NotImplemented
        return _product(self, poly_of(other))

    def __rmul__(self, other):
        if not _is_operand(other):
            return NotImplemented
        return _product(poly_of(other), self)

    def __neg__(self):
        return Poly([-number for number in self.coefficients])

    def __floordiv__(self, other):
        if not _is_operand(other):
            return NotImplemented
        return _divided(self, poly_of(other))[0]

    def __mod__(self, other):
        if not _is_operand(other):
            return NotImplemented
        return _divided(self, poly_of(other))[1]

    def __pow__(self, other):
        return self.power(other)

    def power(self, k):
        """The power with the exponent k."""
        if not is_whole(k) or k < 0 or k > MOST_POWER:
            raise NoNumber("k")
        found = Poly([1])
        for _ in range(k):
            found = _product(found, self)
        return found

    def derivative(self):
        """The derivative."""
        return Poly([self.coefficients[k] * k for k in range(1, len(self.coefficients))])

    def monic(self):
        """The polynomial divided by its lead; zero stays zero."""
        if self.degree < 0:
            return self
        return Poly([number.over(self.lead) for number in self.coefficients])

    def moved(self, by):
        """The Poly with the value of this one at x - by at every x."""
        if not is_number(by):
            raise NoNumber("by")
        way = ratio_of(by)
        tops, bottom = whole_parts(self)
        # As a polynomial in way.bottom * x all of it stays in integers until the end.
        scales = _first_powers(way.bottom, len(tops))
        turned = scales[::-1]
        shifted = _shifted([tops[k] * turned[k] for k in range(len(tops))], way.top)
        return Poly([Ratio(shifted[k] * scales[k], bottom * scales[-1]) for k in range(len(tops))])


def common(p, q):
    """The monic Poly of the greatest degree that divides both."""
    one = primitive(whole_parts(p)[0])
    other = primitive(whole_parts(poly_of(q))[0])
    while len(other) > 0:
        rest = long_division(one, other)[1]
        one, other = other, primitive(trimmed(rest))
    return Poly(one).monic()


def poly_of(q):
    """The Poly itself, or the number as a constant Poly."""
    if isinstance(q, Poly):
        return q
    return Poly([q])


def trimmed(numbers):
    """The list without the zeros at its end."""
    size = len(numbers)
    while size > 0 and numbers[size - 1] == 0:
        size = size - 1
    return numbers[:size]


def whole_parts(p):
    """A list of integers and one bottom for all of them that together are the coefficients of p."""
    bottom = 1
    for number in p.coefficients:
        bottom = lcm(bottom, number.bottom)
    return [number.top * (bottom // number.bottom) for number in p.coefficients], bottom


def primitive(tops):
    """The integers divided by their greatest common divisor."""
    shared = 0
    for top in tops:
        shared = gcd(shared, top)
    return [top // shared for top in tops]


def long_division(tops, divisor):
    """Lists of integers, quotient and rest, and an integer scale, with scale * tops = quotient * divisor + rest.

    All lists are coefficients, the constant first; the last item of the divisor is not 0.
    """
    lead = divisor[-1]
    size = len(divisor) - 1
    rest = list(tops)
    quotient = []
    scale = 1
    for k in range(len(tops) - size - 1, -1, -1):
        # Only as much of the lead is multiplied in as this step needs, which keeps the integers short.
        shared = gcd(rest[k + size], lead)
        up = lead // shared
        times = rest[k + size] // shared
        rest = [up * top for top in rest[:k + size]]
        for j in range(size):
            rest[k + j] = rest[k + j] - times * divisor[j]
        quotient = [times] + [up * top for top in quotient]
        scale = scale * up
    return quotient, rest, scale


def _is_operand(x):
    return isinstance(x, Poly) or is_number(x)


def _sum(one, other):
    size = max(len(one.coefficients), len(other.coefficients))
    return Poly([_coefficient(one, k) + _coefficient(other, k) for k in range(size)])


def _coefficient(p, k):
    if k <= p.degree:
        return p.coefficients[k]
    return Ratio(0)


def _product(one, other):
    tops, bottom = whole_parts(one)
    factors, under = whole_parts(other)
    size = len(tops) + len(factors)
    found = [0] * size
    for k in range(len(tops)):
        for j in range(len(factors)):
            found[k + j] = found[k + j] + tops[k] * factors[j]
    return Poly([Ratio(top, bottom * under) for top in found])


def _divided(p, q):
    """The quotient and the remainder."""
    if q.degree < 0:
        raise NoDivisor()
    tops, bottom = whole_parts(p)
    divisor, under = whole_parts(q)
    quotient, rest, scale = long_division(tops, divisor)
    return (
        Poly([Ratio(top * under, scale * bottom) for top in quotient]),
        Poly([Ratio(top, scale * bottom) for top in rest]),
    )


def _first_powers(base, many):
    """The powers of the base with the exponents 0, 1, .. up to many - 1."""
    found = []
    last = 1
    for _ in range(many):
        found.append(last)
        last = last * base
    return found


def _shifted(tops, by):
    """The integer coefficients of the polynomial in x - by with these coefficients."""
    found = list(tops)
    last = len(found) - 1
    for start in range(last):
        for k in range(last - 1, start - 1, -1):
            found[k] = found[k] - by * found[k + 1]
    return found
