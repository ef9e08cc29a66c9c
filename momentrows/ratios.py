"""Exact fractions."""

from math import gcd, lcm

from momentrows.errors import NoRatio

# The document's limits for an exponent and for the digits of a number that is read.
MOST_POWER = 20
MOST_DIGITS = 40


class Ratio:
    """The fraction top / bottom, kept in lowest terms with the bottom above 0."""

    def __init__(self, top, bottom=1):
        if not is_whole(top):
            raise NoRatio("top")
        if not is_whole(bottom):
            raise NoRatio("bottom")
        if bottom == 0:
            raise NoRatio("zero")
        shared = gcd(top, bottom)
        if bottom < 0:
            shared = -shared
        self.top = top // shared
        self.bottom = bottom // shared

    def __add__(self, other):
        if not is_number(other):
            return NotImplemented
        return _sum(self, ratio_of(other))

    def __radd__(self, other):
        if not is_number(other):
            return NotImplemented
        return _sum(ratio_of(other), self)

    def __sub__(self, other):
        if not is_number(other):
            return NotImplemented
        return _difference(self, ratio_of(other))

    def __rsub__(self, other):
        if not is_number(other):
            return NotImplemented
        return _difference(ratio_of(other), self)

    def __mul__(self, other):
        if not is_number(other):
            return NotImplemented
        return _product(self, ratio_of(other))

    def __rmul__(self, other):
        if not is_number(other):
            return NotImplemented
        return _product(ratio_of(other), self)

    def __neg__(self):
        return Ratio(-self.top, self.bottom)

    def __abs__(self):
        return Ratio(abs(self.top), self.bottom)

    def __floordiv__(self, other):
        if not is_number(other):
            return NotImplemented
        return _floor(self, ratio_of(other))

    def __rfloordiv__(self, other):
        if not is_number(other):
            return NotImplemented
        return _floor(ratio_of(other), self)

    def __mod__(self, other):
        if not is_number(other):
            return NotImplemented
        return _remainder(self, ratio_of(other))

    def __rmod__(self, other):
        if not is_number(other):
            return NotImplemented
        return _remainder(ratio_of(other), self)

    def __pow__(self, other):
        return self.power(other)

    def __eq__(self, other):
        if not is_number(other):
            return NotImplemented
        return _gap(self, other) == 0

    def __ne__(self, other):
        return not self == other

    def __lt__(self, other):
        if not is_number(other):
            return NotImplemented
        return _gap(self, other) < 0

    def __le__(self, other):
        if not is_number(other):
            return NotImplemented
        return _gap(self, other) <= 0

    def __gt__(self, other):
        if not is_number(other):
            return NotImplemented
        return _gap(self, other) > 0

    def __ge__(self, other):
        if not is_number(other):
            return NotImplemented
        return _gap(self, other) >= 0

    def over(self, other):
        """The exact quotient."""
        divisor = ratio_of(other)
        if divisor.top == 0:
            raise NoRatio("zero")
        return Ratio(self.top * divisor.bottom, self.bottom * divisor.top)

    def power(self, k):
        """The power with the exponent k, which may be below 0."""
        if not is_whole(k) or k < -MOST_POWER or k > MOST_POWER:
            raise NoRatio("power")
        if self.top == 0 and k < 0:
            raise NoRatio("zero")
        top = 1
        bottom = 1
        for _ in range(abs(k)):
            top = top * self.top
            bottom = bottom * self.bottom
        if k < 0:
            return Ratio(bottom, top)
        return Ratio(top, bottom)

    def text(self):
        """The fraction in decimal digits, such as 3/4, -5 or 0."""
        if self.bottom == 1:
            return str(self.top)
        return f"{self.top}/{self.bottom}"

    @staticmethod
    def read(text):
        """The Ratio that is written as this text."""
        if not isinstance(text, str):
            raise NoRatio("text")
        top, bar, bottom = text.partition("/")
        if bar == "":
            bottom = "1"
        if not _are_digits(top.removeprefix("-")) or not _are_digits(bottom) or bottom.startswith("0"):
            raise NoRatio("text")
        found = Ratio(int(top), int(bottom))
        # Digits alone do not rule out an unneeded zero, a minus before 0, a bottom 1 or a common factor.
        if found.text() != text:
            raise NoRatio("text")
        return found


def is_whole(x):
    """Whether x is an integer; a flag is none."""
    return isinstance(x, int) and not isinstance(x, bool)


def is_number(x):
    """Whether x is a Ratio or an integer."""
    return isinstance(x, Ratio) or is_whole(x)


def ratio_of(number):
    """The number as a Ratio."""
    if isinstance(number, Ratio):
        return number
    return Ratio(number)


def whole_parts(ratios):
    """A list of integers and one bottom for all of them that together are the Ratios."""
    bottom = 1
    for number in ratios:
        bottom = lcm(bottom, number.bottom)
    return [number.top * (bottom // number.bottom) for number in ratios], bottom


def _sum(one, other):
    return Ratio(one.top * other.bottom + other.top * one.bottom, one.bottom * other.bottom)


def _difference(one, other):
    return Ratio(one.top * other.bottom - other.top * one.bottom, one.bottom * other.bottom)


def _product(one, other):
    return Ratio(one.top * other.top, one.bottom * other.bottom)


def _floor(one, other):
    """The greatest integer that is at most the exact quotient."""
    if other.top == 0:
        raise NoRatio("zero")
    return (one.top * other.bottom) // (one.bottom * other.top)


def _remainder(one, other):
    return _difference(one, _product(other, Ratio(_floor(one, other))))


def _gap(one, other):
    """An integer above, at or below 0, as the Ratio is above, at or below the number."""
    if isinstance(other, Ratio):
        return one.top * other.bottom - other.top * one.bottom
    return one.top - other * one.bottom


def _are_digits(text):
    """Whether the text is a row of digits that is not too long to be read."""
    return len(text) <= MOST_DIGITS and text.isascii() and text.isdigit()
