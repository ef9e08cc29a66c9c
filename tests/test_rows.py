"""Points [13] to [15]: what a row is, means and changed rows."""

import unittest
from fractions import Fraction
from math import comb

from momentrows.errors import NoMean, NoNumber, NoRow
from momentrows.places import Place
from momentrows.polys import Poly
from momentrows.ratios import Ratio
from momentrows.rows import mean, mixed_row, moved_row, product_row, scaled_row, shifted_row, sum_row
from momentrows.steps import kind, steps
from tests import oracles
from tests.oracles import row_of
from tests.samples import NO_LISTS, NO_NUMBERS, Source, check_error, fraction, fractions, poly, ratio

HALF = Fraction(1, 2)
LONG = Fraction(10 ** 400 - 1, 10 ** 399 + 7)
POINTS = [Fraction(-3), Fraction(0), HALF, Fraction(2)]
WEIGHTS = [Fraction(1, 3), Fraction(2), Fraction(5, 7), Fraction(1)]
NUMBERS = [Fraction(0), Fraction(1), Fraction(-2), HALF, Fraction(-22, 7), Fraction(1, 10 ** 400), LONG]
X = Poly([0, 1])

# Every function that takes one row, with other arguments that are right, and those that take two.
ONE_ROW = [
    lambda row: mean(row, Poly([1])), lambda row: moved_row(row, 1), lambda row: scaled_row(row, 2),
    lambda row: shifted_row(row, Poly([1])), lambda row: steps(row, Place()), lambda row: kind(row, Place(0, 1)),
]
TWO_ROWS = [lambda one, other: mixed_row(one, other, share=1), sum_row, product_row]


def samples():
    """Rows as lists of fractions: of every length, of lots, with any numbers, with long numbers, of zeros."""
    source = Source(31)
    found = [[1], [0], [-5], [0, 0, 0], [1, 0, 1, 0], [1, HALF, Fraction(1, 3)], [Fraction(-1, 2), 3, 0, 7]]
    found += [row_of(POINTS, WEIGHTS, size) for size in range(1, 14)]
    found += [source.fractions(size, 2) for size in (2, 3, 6, 13)]
    found += [source.fractions(size, 400) for size in (1, 3, 13)]
    return [[Fraction(x) for x in row] for row in found]


SAMPLES = samples()


def row(numbers):
    return [ratio(x) for x in numbers]


def polys(most):
    """Polynomials of the degrees -1 .. most."""
    source = Source(5)
    found = [[]] + [source.fractions(k, 2) + [Fraction(1 + k, 3)] for k in range(most + 1)]
    return found + [[0] * k + [Fraction(1)] for k in range(most + 1)]


class Rows(unittest.TestCase):
    """Point [13], for every function."""

    def refused(self, value, index):
        for call in ONE_ROW:
            check_error(self, NoRow, lambda: call(value), index=index)
        for call in TWO_ROWS:
            for right in ([1], (1, 2, 3)):
                check_error(self, NoRow, lambda: call(value, right), index=index)
                check_error(self, NoRow, lambda: call(right, value), index=index)

    def test_no_list(self):
        for value in NO_LISTS:
            self.refused(value, -1)

    def test_empty_and_too_long(self):
        for value in ([], (), [1] * 14, (1,) * 14, [1] * 60, [None] * 14):
            self.refused(value, -1)

    def test_items_that_are_no_numbers(self):
        for item in NO_NUMBERS:
            self.refused([item], 0)
            self.refused([1, Ratio(1, 2), item], 2)
        for index in range(13):
            self.refused([1] * index + ["1"] + [1] * (12 - index), index)
            self.refused((1,) * index + (None,) + (True,) * (12 - index), index)

    def test_the_first_row_first(self):
        for call in TWO_ROWS:
            check_error(self, NoRow, lambda: call([1, None], []), index=1)
            check_error(self, NoRow, lambda: call([1, 2, "3"], [None]), index=2)
            check_error(self, NoRow, lambda: call(None, [None]), index=-1)
        check_error(self, NoRow, lambda: mixed_row([1], [None], share=5), index=0)
        check_error(self, NoRow, lambda: mixed_row([], [1], share=None), index=-1)

    def test_the_row_is_checked_first(self):
        check_error(self, NoRow, lambda: mean([], Poly([0, 1])), index=-1)
        check_error(self, NoRow, lambda: mean([None], Poly([0, 1])), index=0)
        check_error(self, NoRow, lambda: moved_row([1, None], None), index=1)
        check_error(self, NoRow, lambda: scaled_row([], "x"), index=-1)
        check_error(self, NoRow, lambda: shifted_row([True], Poly([0, 1])), index=0)

    def test_one_to_thirteen_numbers(self):
        for size in range(1, 14):
            for call in ONE_ROW:
                call([1] * size)
            for call in TWO_ROWS:
                self.assertEqual(len(call([1] * size, (2,) * size)), size)

    def test_lists_and_tuples_of_both_kinds_of_numbers(self):
        for numbers in SAMPLES:
            same = [row(numbers), tuple(row(numbers))]
            if all(x == int(x) for x in numbers):
                same += [[int(x) for x in numbers], tuple(int(x) for x in numbers)]
            for call in ONE_ROW + [lambda one: sum_row(one, one), lambda one: product_row(one, one),
                                   lambda one: mixed_row(one, one, share=Ratio(1, 3))]:
                for value in same[1:]:
                    self.assertEqual(call(value), call(same[0]))

    def test_what_was_passed_stays(self):
        one = [1, Ratio(1, 2), 3]
        other = [2, 0, 5, 7]
        for call in ONE_ROW:
            call(one)
        for call in TWO_ROWS:
            call(one, other), call(other, one), call(one, one)
        self.assertEqual([type(x) for x in one + other], [int, Ratio, int, int, int, int, int])
        self.assertEqual((one, other), ([1, Ratio(1, 2), 3], [2, 0, 5, 7]))

    def test_changes_of_results_have_no_effect(self):
        one = [1, 2, 5]
        for call in (lambda: moved_row(one, 0), lambda: scaled_row(one, 1), lambda: shifted_row(one, Poly([1])),
                     lambda: mixed_row(one, one, share=0), lambda: sum_row(one, [1, 0, 0]),
                     lambda: product_row(one, [1, 1, 1])):
            found = call()
            self.assertIs(type(found), list)
            self.assertEqual(fractions(found), [1, 2, 5])
            found[0] = 9
            found.append(4)
            self.assertEqual(one, [1, 2, 5])
            self.assertEqual(fractions(call()), [1, 2, 5])


class Means(unittest.TestCase):
    """Point [14]."""

    def test_means(self):
        for numbers in SAMPLES:
            for p in polys(len(numbers) - 1):
                self.assertEqual(fraction(mean(row(numbers), poly(p))), oracles.mean(numbers, p))

    def test_means_over_a_lot(self):
        for size in range(1, 14):
            numbers = row(row_of(POINTS, WEIGHTS, size))
            for p in polys(size - 1):
                wanted = sum(w * oracles.value(p, x) for x, w in zip(POINTS, WEIGHTS))
                self.assertEqual(fraction(mean(row=numbers, p=poly(p))), wanted)

    def test_zero_polynomial(self):
        for numbers in SAMPLES:
            self.assertEqual(fraction(mean(row(numbers), Poly([0]))), 0)

    def test_degrees_above_the_row(self):
        for numbers in SAMPLES:
            for degree in (len(numbers), len(numbers) + 1, 29):
                check_error(self, NoMean, lambda: mean(row(numbers), Poly([0] * degree + [1])))


class Changed(unittest.TestCase):
    """Point [15]."""

    def test_moved(self):
        for numbers in SAMPLES:
            for by in NUMBERS:
                wanted = [oracles.mean(numbers, oracles.power([by, Fraction(1)], k)) for k in range(len(numbers))]
                self.assertEqual(fractions(moved_row(row(numbers), ratio(by))), wanted)
            self.assertEqual(moved_row(row=row(numbers), by=-3), moved_row(row(numbers), Ratio(-3)))

    def test_moved_lots(self):
        for by in (Fraction(3), Fraction(-1, 7), LONG):
            wanted = row_of([x + by for x in POINTS], WEIGHTS, 13)
            self.assertEqual(fractions(moved_row(row(row_of(POINTS, WEIGHTS, 13)), ratio(by))), wanted)

    def test_scaled(self):
        for numbers in SAMPLES:
            for by in NUMBERS:
                wanted = [number * by ** k for k, number in enumerate(numbers)]
                self.assertEqual(fractions(scaled_row(row(numbers), ratio(by))), wanted)
            self.assertEqual(scaled_row(row=row(numbers), by=-3), scaled_row(row(numbers), Ratio(-3)))
        self.assertEqual(fractions(scaled_row([4, 5, 6], 0)), [4, 0, 0])

    def test_ways_that_are_no_numbers(self):
        for by in NO_NUMBERS:
            for numbers in ([1], (0, 1, 2)):
                check_error(self, NoNumber, lambda: moved_row(numbers, by), word="by")
                check_error(self, NoNumber, lambda: scaled_row(numbers, by), word="by")

    def test_shifted(self):
        for numbers in SAMPLES:
            for p in polys(len(numbers) - 1)[1:]:
                size = len(numbers) - len(p) + 1
                wanted = [oracles.mean(numbers[k:], p) for k in range(size)]
                self.assertEqual(fractions(shifted_row(row(numbers), poly(p))), wanted)
        self.assertEqual(fractions(shifted_row(row=[1, 2, 3, 4], p=X - 1)), [1, 1, 1])

    def test_shifted_by_zero(self):
        for numbers in SAMPLES:
            for zero in (Poly([]), Poly([0, 0])):
                self.assertEqual(fractions(shifted_row(row(numbers), zero)), [0] * len(numbers))

    def test_shifted_too_far(self):
        for numbers in SAMPLES:
            for degree in (len(numbers), 29):
                check_error(self, NoMean, lambda: shifted_row(row(numbers), Poly([0] * degree + [1])))

    def test_mixed(self):
        for one in SAMPLES:
            for other in SAMPLES[::3]:
                for share in (Fraction(0), Fraction(1), HALF, Fraction(1, 10 ** 400), Fraction(3, 7)):
                    wanted = [(1 - share) * a + share * b for a, b in zip(one, other)]
                    found = mixed_row(row(one), row(other), share=ratio(share))
                    self.assertEqual(fractions(found), wanted)
        self.assertEqual(fractions(mixed_row([1, 2], [3, 4, 5], share=0)), [1, 2])
        self.assertEqual(fractions(mixed_row(one=[1, 2, 9], other=[3, 4], share=1)), [3, 4])

    def test_wrong_shares(self):
        for share in [-1, 2, Ratio(-1, 10 ** 399), Ratio(10 ** 399 + 1, 10 ** 399), *NO_NUMBERS]:
            check_error(self, NoNumber, lambda: mixed_row([1, 2], (3,), share=share), word="share")

    def test_share_by_name_only(self):
        with self.assertRaises(TypeError):
            mixed_row([1], [1], 0)
        with self.assertRaises(TypeError):
            mixed_row([1], [1])

    def test_sums(self):
        for one in SAMPLES:
            for other in SAMPLES[::3]:
                wanted = [sum(comb(k, i) * one[i] * other[k - i] for i in range(k + 1))
                          for k in range(min(len(one), len(other)))]
                self.assertEqual(fractions(sum_row(row(one), row(other))), wanted)
        self.assertEqual(sum_row(one=[1, 2], other=[3, 4]), sum_row([1, 2], [3, 4]))

    def test_products(self):
        for one in SAMPLES:
            for other in SAMPLES[::3]:
                wanted = [a * b for a, b in zip(one, other)]
                self.assertEqual(fractions(product_row(row(one), row(other))), wanted)
        self.assertEqual(product_row(one=[1, 2], other=[3, 4]), product_row([1, 2], [3, 4]))

    def test_sums_and_products_of_lots(self):
        others, counts = [Fraction(-1), Fraction(3, 4)], [Fraction(2), HALF]
        pairs = [(x, y) for x in POINTS for y in others]
        weights = [v * w for v in WEIGHTS for w in counts]
        one, other = row(row_of(POINTS, WEIGHTS, 13)), row(row_of(others, counts, 12))
        self.assertEqual(fractions(sum_row(one, other)), row_of([x + y for x, y in pairs], weights, 12))
        self.assertEqual(fractions(product_row(one, other)), row_of([x * y for x, y in pairs], weights, 12))

    def test_kinds_stay_where_the_place_goes_along(self):
        """A consequence of the facts: a row is inside exactly if the changed row is inside in the changed place."""
        for numbers in SAMPLES[:20]:
            for where in (Place(), Place(-1), Place(0, 2), Place(-3, 2)):
                wanted = kind(row(numbers), where)
                for by in (3, Ratio(-5, 3)):
                    self.assertEqual(kind(moved_row(row(numbers), by), where.moved(by)), wanted)
                for by in (3, Ratio(1, 7)):
                    self.assertEqual(kind(scaled_row(row(numbers), by), where.stretched(by)), wanted)


if __name__ == "__main__":
    unittest.main()
