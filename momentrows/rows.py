"""Rows of numbers m0, m1, .., md: what a row is, means, and changed rows."""

from math import comb

from momentrows.errors import NoMean, NoNumber, NoRow
from momentrows.ratios import Ratio, is_number, ratio_of, whole_parts
from momentrows.whole import first_powers

# The document's limit for the numbers of a row.
MOST_NUMBERS = 13


def mean(row, p):
    """The sum of coefficient k of p times mk."""
    factors, tops, bottom = _over_one_bottom(row, p)
    return Ratio(paired(factors, tops), bottom)


def moved_row(row, by):
    """The row of the means of (x + by) ** k."""
    numbers = row_numbers(row)
    if not is_number(by):
        raise NoNumber("by")
    way = ratio_of(by)
    line, bottom = whole_parts(numbers)
    found = []
    # In turn j the line has the means of (x + by) ** j * x ** k, brought over one bottom.
    while len(line) > 0:
        found.append(Ratio(line[0], bottom))
        line = [line[k + 1] * way.bottom + line[k] * way.top for k in range(len(line) - 1)]
        bottom = bottom * way.bottom
    return found


def scaled_row(row, by):
    """The row of by ** k * mk."""
    numbers = row_numbers(row)
    if not is_number(by):
        raise NoNumber("by")
    powers = first_powers(ratio_of(by), len(numbers))
    return [numbers[k] * powers[k] for k in range(len(numbers))]


def shifted_row(row, p):
    """The row of the means of p * x ** k."""
    factors, tops, bottom = _over_one_bottom(row, p)
    # The zero polynomial has no coefficient, but its row is not longer than this one.
    size = len(tops) - max(0, p.degree)
    return [Ratio(paired(factors, tops[k:]), bottom) for k in range(size)]


def mixed_row(one, other, *, share):
    """The row of (1 - share) * one k + share * other k."""
    numbers = row_numbers(one)
    others = row_numbers(other)
    if not is_number(share) or share < 0 or share > 1:
        raise NoNumber("share")
    return [a * (1 - share) + b * share for a, b in zip(numbers, others)]


def sum_row(one, other):
    """The row of the sums of a point of a lot of one and a point of a lot of other."""
    tops, bottom = whole_parts(row_numbers(one))
    others, under = whole_parts(row_numbers(other))
    found = []
    for k in range(min(len(tops), len(others))):
        total = sum([comb(k, i) * tops[i] * others[k - i] for i in range(k + 1)])
        found.append(Ratio(total, bottom * under))
    return found


def product_row(one, other):
    """The row of one k * other k."""
    numbers = row_numbers(one)
    others = row_numbers(other)
    return [a * b for a, b in zip(numbers, others)]


def row_numbers(row):
    """The numbers of the row as a list of Ratios; raises NoRow if the value is no row."""
    if not isinstance(row, (list, tuple)) or len(row) == 0 or len(row) > MOST_NUMBERS:
        raise NoRow(-1)
    for k in range(len(row)):
        if not is_number(row[k]):
            raise NoRow(k)
    return [ratio_of(number) for number in row]


def paired(factors, tops):
    """The sum of the products of the integers at the same index; the second list may be longer."""
    return sum([factors[k] * tops[k] for k in range(len(factors))])


def _over_one_bottom(row, p):
    """The coefficients of p and the numbers of the row as integers, and the bottom of their products."""
    numbers = row_numbers(row)
    if p.degree >= len(numbers):
        raise NoMean()
    factors, under = whole_parts(p.coefficients)
    tops, bottom = whole_parts(numbers)
    return factors, tops, bottom * under
