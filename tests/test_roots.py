"""Points [8] to [10]: counting and isolating real roots, and the sign of a Poly on a place."""

import unittest
from fractions import Fraction

from momentrows.errors import NoNumber, NoPoly
from momentrows.places import Place
from momentrows.polys import Poly
from momentrows.ratios import Ratio
from momentrows.roots import below_at, is_never_below, isolated, roots_after, roots_in
from tests.oracles import (
    changes_at, power, product, roots_after as counted, sturm_chain, value, with_root, with_roots,
)
from tests.samples import NO_NUMBERS, Source, check_error, coefficients, fraction, place, poly, ratio

HALF = Fraction(1, 2)
TINY = Fraction(1, 10 ** 400)
LONG = Fraction(10 ** 400 - 1, 10 ** 399 + 7)
NO_ROOT = [1, 0, 1]
ZERO = [Poly([]), Poly([0]), Poly((0, 0, 0)), Poly([1, 1]) * 0]
WIDTHS = [Fraction(1, 10 ** 15), Fraction(2, 7), Fraction(1), Fraction(10 ** 6)]


def surd(number):
    """x ** 2 - number."""
    return [-Fraction(number), 0, 1]


def samples():
    """Lists of coefficients: rational and irrational roots, none, repeated ones, constants, close and far ones."""
    source = Source(21)
    found = [
        [3], [Fraction(-2, 5)], with_root(0), [2, -3], NO_ROOT, product(NO_ROOT, NO_ROOT), surd(2), surd(9),
        with_roots(0, 0, 2), with_roots(1, 2, 4, 8), with_roots(-4, -1, 0, HALF, 1), power(with_root(HALF), 7),
        product(surd(2), surd(3), NO_ROOT, with_root(Fraction(3, 2))),
        product(power(surd(2), 3), with_roots(-1, -1, 5)),
        product([-1], surd(5), with_roots(0, 2, Fraction(9, 4))), [2, 0, 0, 1], [-1, 0, 0, 0, 0, 1],
        with_roots(1, 1 + Fraction(1, 10 ** 9)), product(surd(2), surd(2 + Fraction(1, 10 ** 12))),
        [1 + Fraction(1, 10 ** 12), 2, 1], with_roots(Fraction(1, 10 ** 12), -Fraction(1, 10 ** 9), 10 ** 12),
        with_roots(*range(-6, 7)), with_roots(*range(1, 9), *range(1, 4)),
    ]
    found += [[source.integer(2) for _ in range(many)] + [1] for many in (3, 5, 8, 13)]
    found.append(source.fractions(10, 3))
    return [[Fraction(x) for x in numbers] for numbers in found]


SAMPLES = samples()
# At, beside and far from the roots.
ENDS = [None, *[Fraction(x) for x in (-100, -2, -1, 0, 1, 2, 3, 4, 100)], HALF, Fraction(9, 4), Fraction(7, 5),
        HALF - Fraction(1, 10 ** 20), 2 + Fraction(1, 10 ** 20), -Fraction(10 ** 30)]


def end(x):
    return None if x is None else ratio(x)


class Counting(unittest.TestCase):
    """Point [8]."""

    def check(self, p, low, high, wanted):
        """wanted is a tuple of what roots_in and roots_after should return."""
        found = roots_in(p, low, high), roots_after(p, low, high)
        self.assertEqual(found, wanted)
        self.assertEqual([type(x) for x in found], [int, int])

    def test_against_sturm(self):
        for numbers in SAMPLES:
            chain, p = sturm_chain(numbers), poly(numbers)
            first = {x: changes_at(chain, x, -1) for x in ENDS}
            last = {x: changes_at(chain, x) for x in ENDS}
            for low in ENDS:
                at_low = 0 if low is None or value(numbers, low) != 0 else 1
                for high in ENDS:
                    wanted = first[low] - last[high] + at_low, first[low] - last[high]
                    if low is not None and high is not None and low >= high:
                        wanted = at_low if low == high else 0, 0
                    self.check(p, end(low), end(high), wanted)

    def test_document(self):
        self.check(Poly([0, 0, -2, 1]), 0, 2, (2, 1))
        self.assertEqual(roots_in(Poly([0, 0, -2, 1]), None, None), 2)

    def test_known_roots(self):
        p = poly(product(power(with_root(-1), 3), surd(2), NO_ROOT, with_root(5)))
        self.check(p, None, None, (4, 4))
        self.check(p, -1, 5, (3, 2))
        self.check(p, Ratio(-3, 2), Ratio(3, 2), (3, 3))
        self.check(p, Ratio(141421356, 10 ** 8), Ratio(141421357, 10 ** 8), (1, 1))
        self.check(p, Ratio(141421357, 10 ** 8), None, (1, 1))
        self.check(p, None, Ratio(-141421357, 10 ** 8), (0, 0))
        self.check(p, 6, None, (0, 0))
        self.check(p, None, -1, (2, 2))

    def test_equal_and_crossed_ends(self):
        p = Poly([0, -1, 1])
        for x in (0, 1, Ratio(1), Ratio(0)):
            self.check(p, x, x, (1, 0))
        self.check(p, 2, 2, (0, 0))
        self.check(p, 1, 0, (0, 0))
        self.check(p, Ratio(1, 2), Ratio(-1, 2), (0, 0))
        self.check(Poly([5]), 3, 1, (0, 0))

    def test_constants(self):
        for number in (1, -3, Ratio(1, 7)):
            for low, high in ((None, None), (0, None), (None, 0), (0, 1), (1, 1)):
                self.check(Poly([number]), low, high, (0, 0))

    def test_long_numbers(self):
        p = poly(with_roots(LONG, LONG + TINY, -LONG, TINY, 0))
        self.check(p, None, None, (5, 5))
        self.check(p, 0, ratio(TINY), (2, 1))
        self.check(p, ratio(TINY), ratio(LONG), (2, 1))
        self.check(p, ratio(LONG), ratio(LONG + TINY), (2, 1))
        self.check(p, ratio(LONG + TINY / 2), ratio(10 ** 400 * LONG), (1, 1))
        self.check(p * p * Poly([1, 0, 1]), -10 ** 400, 10 ** 400, (5, 5))
        self.check(poly(surd(10 ** 399)), 0, None, (1, 1))
        source = Source(4)
        q = poly(source.fractions(20, 400))
        points = [source.fraction(400) for _ in range(8)]
        self.assertEqual(roots_in(q * poly(with_roots(*points)), None, None), roots_in(q, None, None) + 8)

    def test_roots_near_the_bound_of_their_size(self):
        """The first has a root a bit below 4, where its coefficients alone allow no smaller power of 2 as a bound."""
        numbers = [-(2 ** (15 - k) - 1) for k in range(6)] + [512]
        for far in (numbers, [number * (-1) ** k for k, number in enumerate(numbers)]):
            for found in (far, far[::-1]):
                self.check(poly(found), None, None, (2, 2))
                self.assertEqual(changes_at(sturm_chain(found), None, -1) - changes_at(sturm_chain(found), None), 2)
        self.check(poly(numbers), Ratio(39, 10), 4, (1, 1))

    def test_returned_numbers_as_ends(self):
        p = poly(surd(2))
        low, high = isolated(p, width=Ratio(1, 10 ** 15))[1]
        self.check(p, low, high, (1, 1))
        self.check(p, high, None, (0, 0))

    def test_arguments_by_name(self):
        p = Poly([-2, 0, 1])
        self.assertEqual(roots_in(p=p, low=0, high=None), 1)
        self.assertEqual(roots_after(high=None, low=None, p=p), 2)

    def test_errors(self):
        for call in (roots_in, roots_after):
            for zero in ZERO:
                check_error(self, NoPoly, lambda: call(zero, None, None))
                check_error(self, NoPoly, lambda: call(zero, "1", True))
            for p in (Poly([1]), Poly([0, 1])):
                for wrong in NO_NUMBERS:
                    if wrong is not None:
                        for high in (None, 0, -5, wrong):
                            check_error(self, NoNumber, lambda: call(p, wrong, high), word="low")
                        for low in (None, 0, 10 ** 9):
                            check_error(self, NoNumber, lambda: call(p, low, wrong), word="high")


class Isolating(unittest.TestCase):
    """Point [9]."""

    def check(self, numbers, width, chain=None):
        """The conditions of point [9]; roots are counted by Sturm's theorem."""
        chain = chain or sturm_chain(numbers)
        found = isolated(poly(numbers), width=ratio(width))
        self.assertIs(type(found), list)
        self.assertEqual(len(found), counted(chain, None, None))
        for k, interval in enumerate(found):
            self.assertIs(type(interval), tuple)
            low, high = [fraction(x) for x in interval]
            self.assertLessEqual(high - low, width)
            if low == high:
                self.assertEqual(value(numbers, low), 0)
            else:
                self.assertLess(low, high)
                self.assertEqual(counted(chain, low, high), 1)
            self.assertEqual(counted(chain, None, high), k + 1, "not in ascending order")

    def test_conditions(self):
        for numbers in SAMPLES:
            chain = sturm_chain(numbers)
            for width in WIDTHS:
                self.check(numbers, width, chain)

    def test_widths_of_both_kinds(self):
        p = Poly([-2, 0, 1])
        for width in (1, 10 ** 6, Ratio(1, 3), Ratio(1, 10 ** 15), ratio(TINY), Ratio(10 ** 400)):
            found = isolated(p, width=width)
            self.assertEqual(len(found), 2)
            for low, high in found:
                self.assertLessEqual(high - low, width)
            self.assertTrue(found[0][1] < 0 < found[1][1])

    def test_without_roots(self):
        for p in (Poly([1]), Poly([Ratio(-1, 3)]), Poly(NO_ROOT), Poly([1, 0, 3, 0, 1])):
            self.assertEqual(isolated(p, width=1), [])

    def check_known(self, roots, width):
        """For polynomials with these roots, in ascending order."""
        found = isolated(poly(with_roots(*roots)), width=ratio(width))
        self.assertEqual(len(found), len(roots))
        for root, (low, high) in zip(roots, found):
            low, high = fraction(low), fraction(high)
            self.assertLessEqual(high - low, width)
            inside = [x for x in roots if low < x <= high]
            self.assertTrue(inside == [root] or low == root == high)

    def test_long_numbers(self):
        self.check_known([-LONG, -TINY, 0, 2 * TINY, 3 * TINY, LONG, LONG + TINY], Fraction(10 ** 6))
        self.check_known([-LONG, Fraction(1), LONG - TINY, LONG], TINY)
        self.check_known(sorted(Source(2).fractions(9, 400)), Fraction(1, 10 ** 15))

    def test_the_same_answer_each_time(self):
        for numbers in SAMPLES:
            first = isolated(poly(numbers), width=Ratio(1, 100))
            again = isolated(poly(numbers), width=Ratio(2, 200))
            self.assertEqual(first, again)
            first.append(None)
            self.assertEqual(isolated(poly(numbers), width=Ratio(1, 100)), again)

    def test_the_poly_stays(self):
        p = Poly([-2, 0, 1])
        isolated(p, width=1), roots_in(p, 0, 1), below_at(p, Place())
        self.assertEqual(coefficients(p), [-2, 0, 1])

    def test_errors(self):
        for zero in ZERO:
            check_error(self, NoPoly, lambda: isolated(zero, width=1))
            check_error(self, NoPoly, lambda: isolated(zero, width=None))
        for p in (Poly([1]), Poly([-2, 0, 1])):
            for width in [0, -1, Ratio(0), Ratio(-1, 3), -10 ** 400, *NO_NUMBERS]:
                check_error(self, NoNumber, lambda: isolated(p, width=width), word="width")

    def test_width_by_name_only(self):
        with self.assertRaises(TypeError):
            isolated(Poly([-2, 0, 1]), 1)
        with self.assertRaises(TypeError):
            isolated(Poly([-2, 0, 1]))


class Below(unittest.TestCase):
    """Point [10]."""

    def check(self, numbers, low, high, wanted):
        p, where = poly(numbers), place(low, high)
        self.assertIs(is_never_below(p, where), wanted)
        found = below_at(p, where)
        if wanted:
            self.assertIsNone(found)
            return
        x = fraction(found)
        self.assertTrue(low is None or x >= low)
        self.assertTrue(high is None or x <= high)
        self.assertLess(value(numbers, x), 0)

    def test_lines_and_parabolas(self):
        self.check(with_root(2), None, None, False)
        self.check(with_root(2), 2, None, True)
        self.check(with_root(2), 2, 3, True)
        self.check(with_root(2), Fraction(19, 10), 3, False)
        self.check(with_root(2), -5, 2, False)
        self.check([2, -1], 0, 2, True)
        self.check([2, -1], 0, None, False)
        self.check(with_roots(1, 1), None, None, True)
        self.check(product([-1], with_roots(1, 1)), None, None, False)
        self.check(product([-1], with_roots(1, 1)), 1, 2, False)
        self.check(with_roots(0, 1), 0, 1, False)
        self.check(with_roots(0, 1), 1, None, True)
        self.check(with_roots(0, 1), -3, 0, True)
        self.check(product([-1], with_roots(0, 1)), 0, 1, True)
        self.check(product([-1], with_roots(0, 1)), 0, None, False)
        self.check([2, -1], 2, None, False)
        self.check([2, -1], 2, 3, False)
        self.check(product([-1], with_roots(0, 3)), 3, None, False)

    def test_zero_and_constants(self):
        for low, high in ((None, None), (0, None), (0, 1)):
            self.check([], low, high, True)
            self.check([Fraction(1, 7)], low, high, True)
            self.check([-TINY], low, high, False)

    def test_zero_polynomial_in_every_form(self):
        for zero in ZERO:
            self.assertIs(is_never_below(zero, Place()), True)
            self.assertIsNone(below_at(zero, Place(0, 1)))

    def test_irrational_roots(self):
        self.check(surd(2), None, None, False)
        self.check(surd(2), Fraction(3, 2), None, True)
        self.check(surd(2), Fraction(7, 5), None, False)
        self.check(surd(2), Fraction(141421357, 10 ** 8), 2, True)
        self.check(power(surd(2), 2), None, None, True)
        self.check(power(surd(2), 3), 0, None, False)
        self.check(product(power(surd(2), 2), with_root(-1)), -1, None, True)
        self.check(product(power(surd(2), 2), with_root(-1)), Fraction(-11, 10), None, False)
        self.check(product(surd(2), surd(3)), 0, 1, True)
        self.check(product(surd(2), surd(3)), 1, 2, False)
        self.check(product([-1], surd(2), surd(3)), Fraction(3, 2), Fraction(17, 10), True)

    def test_below_only_between_close_roots(self):
        for gap in (Fraction(1, 10 ** 6), Fraction(1, 10 ** 40), TINY):
            for low, high in ((None, None), (0, None), (0, 2), (1, 2), (0, 1 + gap)):
                self.check(with_roots(1, 1 + gap), low, high, False)
                self.check(product(with_roots(1, 1 + gap), NO_ROOT, power(with_root(3), 2)), low, high, False)
                self.check(power(with_roots(1, 1 + gap), 2), low, high, True)
            self.check(with_roots(1, 1 + gap), 1 + gap, None, True)
            self.check(with_roots(1, 1 + gap), 0, 1, True)
            self.check([1 + gap, -2, 1], None, None, True)
            self.check(product([1 + gap, -2, 1], [gap, 0, 1]), -1, 1, True)

    def test_below_only_near_irrational_roots(self):
        for drop in (Fraction(1, 10 ** 6), Fraction(1, 10 ** 40), TINY):
            base = power(surd(2), 2)
            self.check([base[0] - drop, *base[1:]], None, None, False)
            self.check([base[0] - drop, *base[1:]], 1, 2, False)
            self.check([base[0] - drop, *base[1:]], 2, None, True)
            self.check([base[0] + drop, *base[1:]], None, None, True)
            self.check(product(surd(2), surd(2 + drop)), 0, None, False)
            self.check(product(surd(2), surd(2 + drop), with_root(0)), None, None, False)

    def test_roots_beside_the_ends(self):
        for step in (Fraction(1, 1000), TINY):
            self.check(with_root(step), 0, 1, False)
            self.check([1 - step, -1], 0, 1, False)
            self.check(product(with_root(0), with_root(step)), 0, None, False)
            self.check(product([-1], with_root(1), with_root(1 - step)), 0, 1, False)
            self.check(product(with_root(0), with_root(-step)), 0, None, True)
            self.check(product(with_root(1), with_root(1 + step)), 0, 1, True)

    def test_roots_at_the_ends(self):
        self.check(product(with_root(0), [1, -1]), 0, 1, True)
        self.check(product(with_root(0), [1, -1], with_root(HALF)), 0, 1, False)
        self.check(product(with_root(0), [1, -1], power(with_root(HALF), 2)), 0, 1, True)
        self.check(product(power(with_root(0), 3), power(with_root(1), 2)), 0, 1, True)
        self.check(product(power(with_root(0), 2), power(with_root(1), 3)), 0, 1, False)
        self.check(with_roots(*range(6)), 4, 5, False)
        self.check(with_roots(*range(6)), 3, 4, True)
        self.check(with_roots(*range(6)), 5, None, True)

    def test_against_values_between_roots(self):
        roots = [Fraction(x) for x in (-3, -1, 0, HALF, 1, 4)]
        inner = [-4, -2, -HALF, Fraction(1, 4), Fraction(3, 4), 2, 5]
        source = Source(9)
        for _ in range(60):
            numbers = product([source.below(2) * 2 - 1], *[power(with_root(x), source.below(4)) for x in roots])
            for low, high in ((None, None), (-1, None), (0, None), (-1, 1), (0, 4), (HALF, 1), (-4, 5), (2, 3)):
                points = [x for x in inner if (low is None or x >= low) and (high is None or x <= high)]
                points += [x for x in (low, high) if x is not None]
                self.check(numbers, low, high, all(value(numbers, x) >= 0 for x in points))

    def test_long_numbers(self):
        source = Source(14)
        numbers = source.fractions(15, 400)
        for square in (product(numbers, numbers), with_roots(LONG, LONG)):
            self.check(square, None, None, True)
            self.check(product([-1], square), -LONG, LONG, False)
        self.check(with_roots(LONG, LONG + TINY), LONG, LONG + TINY, False)
        self.check(with_roots(LONG, LONG + TINY), LONG + TINY, None, True)

    def test_the_same_answer_each_time(self):
        for numbers in SAMPLES:
            for where in (Place(), Place(-1), Place(-1, 3)):
                self.assertEqual(below_at(poly(numbers), where), below_at(poly(numbers), where))

    def test_kinds_of_answers(self):
        self.assertIs(type(below_at(p=Poly([-1]), place=Place(0, 1))), Ratio)
        self.assertIs(is_never_below(p=Poly([1]), place=Place(0, 1)), True)


if __name__ == "__main__":
    unittest.main()
