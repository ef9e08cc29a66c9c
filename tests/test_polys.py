"""Points [6] and [7]: the class Poly and the function common."""

import unittest
from fractions import Fraction

from momentrows.errors import NoDivisor, NoNumber, NoPoly
from momentrows.polys import Poly, common
from momentrows.ratios import Ratio
from tests.oracles import plus, times, trim, value
from tests.samples import (
    NO_INTEGERS, NO_LISTS, NO_NUMBERS, Source, check_error, coefficients, fraction, poly, ratio,
)

HALF = Fraction(1, 2)
X = Poly([0, 1])
NUMBERS = [Fraction(0), Fraction(1), Fraction(-3), HALF, Fraction(-22, 7), Fraction(10 ** 400 - 1, 10 ** 399)]


def samples():
    """Lists of fractions, trimmed: short and long, sparse, with small and with long numbers."""
    source = Source(11)
    found = [[], [1], [Fraction(-2, 3)], [0, 1], [0, 0, HALF], [1, -2, 1], [-1, 0, 0, 1]]
    for many, digits in ((2, 1), (3, 1), (4, 2), (7, 3), (12, 30), (3, 400), (30, 1)):
        found.append(source.fractions(many, digits))
    found.append([source.integer(400) for _ in range(30)])
    return [trim(numbers) for numbers in found]


SAMPLES = samples()


class Making(unittest.TestCase):
    """Point [6]."""

    def test_fields(self):
        for numbers in SAMPLES:
            for ending in ([], [0], [0, Fraction(0)], [0] * (30 - len(numbers))):
                items = [ratio(x) for x in numbers + ending]
                self.assertEqual(coefficients(Poly(items)), numbers)
                self.assertEqual(coefficients(Poly(tuple(items))), numbers)

    def test_integers_and_ratios(self):
        p = Poly(coefficients=[1, Ratio(4, 2), 0, Ratio(-1, 3), 0, Ratio(0)])
        self.assertEqual([x.text() for x in p.coefficients], ["1", "2", "0", "-1/3"])
        self.assertEqual((p.degree, p.lead.text()), (3, "-1/3"))
        coefficients(p)

    def test_zero(self):
        for items in ([], (), [0], (0, 0), [Ratio(0)] * 30):
            p = Poly(items)
            self.assertEqual((p.coefficients, p.degree), ((), -1))
            self.assertEqual((type(p.lead), p.lead.top, p.lead.bottom), (Ratio, 0, 1))

    def test_wrong_lists(self):
        for items in NO_LISTS:
            check_error(self, NoPoly, lambda: Poly(items))

    def test_wrong_items(self):
        for item in NO_NUMBERS:
            for items in ([item], (item,), [1, item], [item, 2], (0, item, 0), [1] * 29 + [item]):
                check_error(self, NoPoly, lambda: Poly(items))

    def test_later_changes_of_the_list_have_no_effect(self):
        items = [1, Ratio(1, 2), 3]
        p = Poly(items)
        items[0] = 7
        items.append(9)
        self.assertEqual(coefficients(p), [1, HALF, 3])
        self.assertEqual(len(items), 4)

    def test_the_list_stays(self):
        items = [1, 0, 0]
        Poly(items)
        self.assertEqual(items, [1, 0, 0])
        self.assertEqual([type(x) for x in items], [int] * 3)

    def test_equality(self):
        for one in SAMPLES:
            for other in SAMPLES:
                same = poly(one) == poly(other + [0])
                self.assertIs(same, one == other)
                self.assertIs(poly(one) != poly(other), one != other)


class Arithmetic(unittest.TestCase):
    """Point [7], sums, products, quotients."""

    def test_sums_and_products(self):
        for one in SAMPLES:
            for other in SAMPLES:
                p, q = poly(one), poly(other)
                self.assertEqual(coefficients(p + q), plus(one, other))
                self.assertEqual(coefficients(p - q), plus(one, times([-1], other)))
                self.assertEqual(coefficients(p * q), times(one, other))
                self.assertEqual((coefficients(p), coefficients(q)), (one, other))

    def test_minus(self):
        for one in SAMPLES:
            self.assertEqual(coefficients(-poly(one)), times([-1], one))

    def test_numbers_on_either_side(self):
        for one in SAMPLES:
            for number in NUMBERS:
                for q in [ratio(number)] + ([int(number)] if number.denominator == 1 else []):
                    p = poly(one)
                    constant = trim([number])
                    self.assertEqual(coefficients(p + q), plus(one, constant))
                    self.assertEqual(coefficients(q + p), plus(one, constant))
                    self.assertEqual(coefficients(p - q), plus(one, [-number]))
                    self.assertEqual(coefficients(q - p), plus(constant, times([-1], one)))
                    self.assertEqual(coefficients(p * q), times(one, constant))
                    self.assertEqual(coefficients(q * p), times(one, constant))

    def check_division(self, one, other, q):
        p = poly(one)
        quotient, rest = coefficients(p // q), coefficients(p % q)
        self.assertLess(len(rest), len(other))
        self.assertEqual(plus(times(quotient, other), rest), one)

    def test_quotients(self):
        for one in SAMPLES:
            for other in SAMPLES:
                if other:
                    self.check_division(one, other, poly(other))

    def test_quotients_without_a_rest(self):
        for one in SAMPLES[:12]:
            for other in SAMPLES[1:12]:
                product = poly(one) * poly(other)
                self.assertEqual(coefficients(product // poly(other)), one)
                self.assertEqual(coefficients(product % poly(other)), [])

    def test_quotients_with_numbers(self):
        for one in SAMPLES:
            for number in NUMBERS[1:]:
                self.check_division(one, [number], ratio(number))
            self.check_division(one, [Fraction(-6)], -6)
        self.assertEqual(Poly([2, 4]) // 2, Poly([1, 2]))
        self.assertEqual(Poly([2, 4]) % 3, Poly([]))

    def test_division_by_zero(self):
        for one in SAMPLES:
            for zero in (0, Ratio(0), Poly([]), Poly([0, 0])):
                check_error(self, NoDivisor, lambda: poly(one) // zero)
                check_error(self, NoDivisor, lambda: poly(one) % zero)

    def test_zero_in_every_operation(self):
        zero = Poly([])
        found = [zero + zero, zero - zero, zero * zero, -zero, zero + 0, 0 - zero, zero * 5, zero // 3, zero % 3,
                 zero // X, zero % X, zero ** 3, zero.derivative(), zero.monic(), zero.moved(2), common(zero, zero)]
        for p in found:
            self.assertEqual(coefficients(p), [])
        self.assertEqual(coefficients(zero ** 0), [1])
        self.assertEqual(fraction(zero(5)), 0)

    def test_operands_stay(self):
        p = Poly([1, Ratio(1, 2), 3])
        q = Poly([0, -2])
        for call in (lambda: p + q, lambda: p - q, lambda: p * q, lambda: p // q, lambda: p % q, lambda: -p,
                     lambda: p ** 3, lambda: p(3), lambda: p.moved(1), lambda: p.monic(), lambda: p.derivative(),
                     lambda: common(p, q), lambda: 1 - p, lambda: p == q):
            call()
            self.assertEqual((coefficients(p), coefficients(q)), ([1, HALF, 3], [0, -2]))

    def test_assignments_with_a_sign_make_new_polys(self):
        first = p = Poly([1, 1])
        p += 1
        p *= p
        p -= Poly([0, 0, 1])
        self.assertEqual((coefficients(first), coefficients(p)), ([1, 1], [4, 4]))


class Values(unittest.TestCase):
    """Point [7], values, powers, derivatives."""

    def test_values(self):
        for one in SAMPLES:
            for x in NUMBERS:
                self.assertEqual(fraction(poly(one)(ratio(x))), value(one, x))
            for x in (-2, 0, 1, 7):
                self.assertEqual(fraction(poly(one)(x=x)), value(one, x))

    def test_wrong_x(self):
        for p in (Poly([]), Poly([3]), X):
            for x in NO_NUMBERS:
                check_error(self, NoNumber, lambda: p(x), word="x")

    def test_powers(self):
        for one in ([], [1], [Fraction(-2, 3)], [0, 1], [HALF, -1], [1, 0, -3], [2, 1, 0, Fraction(1, 7)]):
            wanted = [Fraction(1)]
            for k in range(21):
                self.assertEqual(coefficients(poly(one) ** k), wanted)
                self.assertEqual(coefficients(poly(one).power(k=k)), wanted)
                wanted = times(wanted, one)

    def test_wrong_exponents(self):
        for p in (Poly([]), Poly([1]), X):
            for k in [-1, 21, -20, 10 ** 30, *NO_INTEGERS]:
                check_error(self, NoNumber, lambda: p ** k, word="k")
                check_error(self, NoNumber, lambda: p.power(k), word="k")

    def test_derivative(self):
        for one in SAMPLES:
            wanted = [k * number for k, number in enumerate(one)][1:]
            self.assertEqual(coefficients(poly(one).derivative()), wanted)

    def test_monic(self):
        for one in SAMPLES:
            wanted = [number / one[-1] for number in one]
            self.assertEqual(coefficients(poly(one).monic()), wanted)

    def test_moved(self):
        for one in SAMPLES:
            for by in (Fraction(0), Fraction(1), Fraction(-3), Fraction(5, 6), Fraction(-1, 10 ** 9)):
                wanted = []
                for number in one[::-1]:
                    wanted = plus(times(wanted, [-by, 1]), [number])
                self.assertEqual(coefficients(poly(one).moved(ratio(by))), wanted)
            self.assertEqual(poly(one).moved(by=-3), poly(one).moved(Ratio(-3)))

    def test_moved_far(self):
        by = Fraction(1 - 10 ** 400, 10 ** 399 + 7)
        for one in SAMPLES:
            moved = poly(one).moved(ratio(by))
            for x in (Fraction(0), by, Fraction(2, 3)):
                self.assertEqual(fraction(moved(ratio(x))), value(one, x - by))

    def test_moved_turns_the_right_way(self):
        self.assertEqual(coefficients(X.moved(2)), [-2, 1])

    def test_moved_by_no_number(self):
        for p in (Poly([]), Poly([3]), X):
            for by in NO_NUMBERS:
                check_error(self, NoNumber, lambda: p.moved(by), word="by")


class Common(unittest.TestCase):
    """Point [7], common."""

    def product(self, roots):
        found = Poly([1])
        for root, many in roots:
            found = found * (X - ratio(root)) ** many
        return found

    def test_repeated_factors(self):
        source = Source(3)
        for digits in (1, 2, 20, 100):
            roots = [source.fraction(digits) + 3 * 10 ** digits * k for k in range(4)]
            for one, other in (((1, 2, 0, 0), (0, 1, 2, 0)), ((3, 1, 2, 0), (2, 4, 0, 1)), ((5, 3, 1, 2), (2, 3, 4, 0)),
                               ((1, 1, 0, 0), (0, 0, 1, 1)), ((4, 4, 4, 4), (5, 5, 5, 5))):
                p = self.product(zip(roots, one)) * Ratio(-3, 7)
                q = self.product(zip(roots, other)) * 12
                wanted = self.product((root, min(k, j)) for root, k, j in zip(roots, one, other))
                for found in (common(p, q), common(q, p), common(p=p, q=q)):
                    self.assertEqual(found, wanted)
                    coefficients(found)

    def test_factors_without_real_roots(self):
        square = Poly([1, 0, 1])
        cubic = Poly([-2, 0, 0, Ratio(1, 3)])
        p = square ** 3 * cubic * X
        q = square ** 2 * cubic ** 2 * (X + 1)
        self.assertEqual(common(p, q), square ** 2 * cubic * 3)

    def test_with_the_derivative(self):
        p = self.product([(Fraction(1), 1), (HALF, 2), (Fraction(-4), 5)])
        self.assertEqual(common(p, p.derivative()), self.product([(HALF, 1), (Fraction(-4), 4)]))

    def test_long_polys(self):
        source = Source(8)
        shared = poly(source.fractions(10, 2))
        p = shared * poly([source.integer(3) for _ in range(20)] + [1])
        q = shared * poly([source.integer(3) for _ in range(19)] + [2])
        found = common(p, q)
        self.assertEqual(found, shared.monic())

    def test_nothing_in_common(self):
        one = Poly([1])
        self.assertEqual(common(X, X + 1), one)
        self.assertEqual(common(X * 5, Poly([7])), one)
        self.assertEqual(common(Poly([Ratio(2, 3)]), Poly([-7])), one)

    def test_one_divides_the_other(self):
        p = Poly([2, Ratio(1, 2), -3])
        self.assertEqual(common(p, p), p.monic())
        self.assertEqual(common(p * X, p), p.monic())
        self.assertEqual(common(-p, p * (X - 1) ** 4), p.monic())

    def test_values_that_always_share_a_divisor(self):
        """At every integer, one is a multiple of 6 and the other of 24, though they have no common root."""
        one = self.product([(Fraction(k), 1) for k in range(3)])
        other = self.product([(Fraction(k), 1) for k in range(3, 7)])
        self.assertEqual(common(one, other), Poly([1]))
        for shared in (X - 9, Poly([1, 0, 1]), Poly([7, 0, -2, 5]).monic()):
            self.assertEqual(common(one * shared, other * shared), shared)
            self.assertEqual(common(one * shared * 10 ** 30, other * shared * shared), shared)

    def test_values_that_share_a_power_of_two(self):
        for exponent in (30, 100, 400):
            for shared in (X - 1, X * 3 + 5, Poly([1, 0, 1])):
                one, other = X * shared, (X + 2 ** exponent) * shared
                self.assertEqual(common(one, other), shared.monic())
                self.assertEqual(common(other, one), shared.monic())

    def test_leads_with_a_great_prime(self):
        prime = 2305843009213693951
        p = (prime * X - 1) * (X - 2)
        self.assertEqual(common(p, (prime * X - 1) * (X + 2)), X - Ratio(1, prime))
        self.assertEqual(common(p, prime * X * X + 1), Poly([1]))
        self.assertEqual(common(p, (X - 2) * (X + prime - 2)), X - 2)
        self.assertEqual(common((X - 2) * (X + prime - 2), p), X - 2)

    def test_roots_of_400_digits(self):
        source = Source(6)
        roots = source.fractions(12, 400)
        p = self.product((root, 1 + k % 3) for k, root in enumerate(roots))
        wanted = self.product((root, k % 3) for k, root in enumerate(roots))
        self.assertEqual(common(p, p.derivative()), wanted)
        self.assertEqual(common(p, p.moved(1)), Poly([1]))

    def test_zero(self):
        zero = Poly([0])
        for one in SAMPLES:
            self.assertEqual(common(zero, poly(one)), poly(one).monic())
            self.assertEqual(common(poly(one), zero), poly(one).monic())
        self.assertEqual(coefficients(common(zero, zero)), [])

    def test_a_number_means_the_constant(self):
        self.assertEqual(common(X * 2 - 3, 0), X - Ratio(3, 2))
        self.assertEqual(common(X * 2 - 3, Ratio(0)), X - Ratio(3, 2))
        self.assertEqual(common(X, 5), Poly([1]))
        self.assertEqual(common(Poly([]), Ratio(-1, 2)), Poly([1]))


if __name__ == "__main__":
    unittest.main()
