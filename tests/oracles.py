"""What the program should return, worked out in other ways with the fractions of Python.

A polynomial is a list of fractions here, the constant first and without zeros at the end.
"""

from fractions import Fraction


def trim(numbers):
    found = [Fraction(x) for x in numbers]
    while found and found[-1] == 0:
        found.pop()
    return found


def plus(one, other):
    size = max(len(one), len(other))
    return trim([sum(row[k] for row in (one, other) if k < len(row)) for k in range(size)])


def times(one, other):
    found = [Fraction(0)] * (len(one) + len(other))
    for k, a in enumerate(one):
        for j, b in enumerate(other):
            found[k + j] += a * b
    return trim(found)


def value(numbers, x):
    found = Fraction(0)
    for number in numbers[::-1]:
        found = found * x + number
    return found


def product(*parts):
    found = [Fraction(1)]
    for part in parts:
        found = times(found, part)
    return found


def power(numbers, k):
    return product(*[numbers] * k)


def with_root(x):
    return trim([-Fraction(x), 1])


def with_roots(*roots):
    return product(*[with_root(x) for x in roots])


def divided(numbers, divisor):
    """The quotient and the rest."""
    rest = list(numbers)
    found = [Fraction(0)] * max(0, len(numbers) - len(divisor) + 1)
    while len(rest) >= len(divisor):
        start = len(rest) - len(divisor)
        found[start] = rest[-1] / divisor[-1]
        for k, number in enumerate(divisor):
            rest[start + k] -= found[start] * number
        rest.pop()
    return found, trim(rest)


def sturm_chain(numbers):
    """Sturm's chain of the polynomial, divided by its last one, so that repeated roots do no harm."""
    found = [numbers, trim([k * number for k, number in enumerate(numbers)][1:])]
    while found[-1]:
        found.append([-number for number in divided(found[-2], found[-1])[1]])
    found.pop()
    return [divided(part, found[-1])[0] for part in found]


def changes(numbers):
    signs = [number > 0 for number in numbers if number != 0]
    return sum(a != b for a, b in zip(signs, signs[1:]))


def changes_at(chain, x, side=1):
    """The changes of sign at x; None is the end of the line on this side, 1 or -1."""
    if x is None:
        return changes([part[-1] * side ** (len(part) - 1) for part in chain])
    return changes([value(part, x) for part in chain])


def roots_after(chain, low, high):
    """How many different roots x have low < x <= high, by Sturm's theorem."""
    if low is not None and high is not None and low >= high:
        return 0
    return changes_at(chain, low, -1) - changes_at(chain, high)


def row_of(points, weights, size):
    """The numbers 0 .. size - 1 of the row of a lot."""
    return [sum((Fraction(w) * Fraction(x) ** k for x, w in zip(points, weights)), Fraction(0)) for k in range(size)]


def mean(row, p):
    return sum((number * row[k] for k, number in enumerate(p)), Fraction(0))


def solved(rows, right):
    """The numbers x with the sums of rows[i][j] * x[j] equal to right[i]."""
    size = len(rows)
    lines = [list(row) + [number] for row, number in zip(rows, right)]
    for k in range(size):
        at = next(j for j in range(k, size) if lines[j][k] != 0)
        lines[k], lines[at] = lines[at], lines[k]
        lines[k] = [number / lines[k][k] for number in lines[k]]
        for j in range(size):
            if j != k:
                lines[j] = [a - lines[j][k] * b for a, b in zip(lines[j], lines[k])]
    return [line[-1] for line in lines]


def factors(low, high):
    found = [[Fraction(1)]]
    if low is not None:
        found.append(trim([-low, 1]))
    if high is not None:
        found.append(trim([high, -1]))
        found.append(times(found[1], found[2]))
    return found


def steps(row, low, high):
    """The steps of point [16], each polynomial from its linear equations."""
    found = []
    for k in range(len(row)):
        for u in factors(low, high):
            s, odd = divmod(k - len(u) + 1, 2)
            if odd or s < 0:
                continue
            shifted = [mean(row[j:], u) for j in range(2 * s + 1)]
            rows = [[shifted[i + j] for j in range(s)] for i in range(s)]
            p = solved(rows, [-shifted[i + s] for i in range(s)]) + [Fraction(1)]
            found.append((k, u, p, mean(row, product(u, p, p))))
        if any(step[3] <= 0 for step in found if step[0] == k):
            break
    return found


def kind(row, low, high):
    found = steps(row, low, high)
    last = found[-1][0]
    worst = min(step[3] for step in found if step[0] == last)
    if worst < 0:
        return "out", last
    return ("border", last) if worst == 0 else ("inside",)
