"""Polynomials as lists of integer coefficients, the constant first and without zeros at the end.

Work that has many steps is done on such lists, since fractions would have to be shortened after every step.
"""

from math import gcd

# Any prime may stand here; a great one seldom divides a number by chance.
PRIME = 2305843009213693951
# Bits by which numbers may grow before a trial in common_tops has to be repeated.
ROOM = 16


def trimmed(numbers):
    """The list without the zeros at its end."""
    size = len(numbers)
    while size > 0 and numbers[size - 1] == 0:
        size = size - 1
    return numbers[:size]


def primitive(tops):
    """The integers divided by their greatest common divisor."""
    shared = 0
    for top in tops:
        shared = gcd(shared, top)
    return [top // shared for top in tops]


def slope_of(tops):
    """The derivative."""
    return [k * tops[k] for k in range(1, len(tops))]


def value_parts(tops, x):
    """An integer and a scale above 0 whose quotient is the value at the Ratio x."""
    total = 0
    scale = 1
    for top in tops[::-1]:
        total = total * x.top + top * scale
        scale = scale * x.bottom
    return total * x.bottom, scale


def first_powers(base, many):
    """The powers of the base with the exponents 0, 1, .. up to many - 1."""
    found = []
    last = 1
    for _ in range(many):
        found.append(last)
        last = last * base
    return found


def moved_tops(tops, by):
    """The polynomial whose value at every x is the value of this one at x - by."""
    found = list(tops)
    last = len(found) - 1
    for start in range(last):
        for k in range(last - 1, start - 1, -1):
            found[k] = found[k] - by * found[k + 1]
    return found


def around(tops, top, bottom):
    """The polynomial in t whose value is the one of this polynomial at (top + t) / bottom, times bottom ** degree."""
    scales = first_powers(bottom, len(tops))[::-1]
    return moved_tops([tops[k] * scales[k] for k in range(len(tops))], -top)


def sign_changes(tops):
    """How often the sign changes from one coefficient to the next, without those that are 0."""
    signs = [top > 0 for top in tops if top != 0]
    return len([k for k in range(1, len(signs)) if signs[k] != signs[k - 1]])


def long_division(tops, divisor):
    """Lists of integers, quotient and rest, and an integer scale, with scale * tops = quotient * divisor + rest."""
    lead = divisor[-1]
    size = len(divisor) - 1
    rest = list(tops)
    quotient = []
    scale = 1
    for k in range(len(tops) - size - 1, -1, -1):
        # Only as much of the lead is multiplied in as this step needs, which keeps the integers short.
        shared = gcd(rest[k + size], lead)
        up = lead // shared
        times = rest[k + size] // shared
        rest = [up * top for top in rest[:k + size]]
        for j in range(size):
            rest[k + j] = rest[k + j] - times * divisor[j]
        quotient = [times] + [up * top for top in quotient]
        scale = scale * up
    return quotient, rest, scale


def common_tops(tops, others):
    """The greatest polynomial with integer coefficients that have no common divisor, and that divides both.

    At a base that is great enough, the values of the two have a greatest common divisor whose digits are the
    coefficients of the result, up to a factor. If a trial finds no divisor of both, the base was too small; and a
    divisor of both is the greatest one where the base is above twice the coefficients of one of the two.
    """
    if len(tops) == 0 or len(others) == 0:
        return primitive(tops + others)
    one = primitive(tops)
    other = primitive(others)
    if _have_surely_no_common_root(one, other):
        return [1]
    if _longest(one) > _longest(other):
        one, other = other, one
    bits = _longest(one) + len(one) + ROOM
    while True:
        shared = gcd(_packed(one, bits), _packed(other, bits))
        found = primitive(_unpacked(shared, bits))
        if divides(found, one) and divides(found, other):
            return found
        bits = bits + bits // 4 + 1


def divides(divisor, tops):
    """Whether the remainder is zero."""
    return len(trimmed(long_division(tops, divisor)[1])) == 0


def _have_surely_no_common_root(tops, others):
    """Whether the remainders by a prime show that the two have no common root; False shows nothing."""
    if tops[-1] % PRIME == 0:
        return False
    one = [top % PRIME for top in tops]
    other = trimmed([top % PRIME for top in others])
    while len(other) > 0:
        one, other = other, _rest_by_prime(one, other)
    return len(one) == 1


def _rest_by_prime(tops, divisor):
    """A multiple of the remainder of the division, all by the prime."""
    lead = divisor[-1]
    size = len(divisor) - 1
    rest = list(tops)
    while len(rest) > size:
        times = rest[-1]
        start = len(rest) - 1 - size
        rest = [lead * top % PRIME for top in rest[:-1]]
        for j in range(size):
            rest[start + j] = (rest[start + j] - times * divisor[j]) % PRIME
    return trimmed(rest)


def _longest(tops):
    """The bits of the longest coefficient."""
    bits = 0
    for top in tops:
        if top.bit_length() > bits:
            bits = top.bit_length()
    return bits


def _packed(tops, bits):
    """The value at the power of 2 with this exponent."""
    total = 0
    for top in tops[::-1]:
        total = (total << bits) + top
    return total


def _unpacked(number, bits):
    """The polynomial with this value there whose coefficients are at most half of that power."""
    found = []
    rest = number
    while rest != 0:
        digit = rest & ((1 << bits) - 1)
        if digit >> (bits - 1) == 1:
            digit = digit - (1 << bits)
        found.append(digit)
        rest = (rest - digit) >> bits
    return found
