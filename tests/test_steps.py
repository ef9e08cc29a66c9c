"""Points [16] to [18]: the steps and the kind of a row in a place."""

import unittest
from fractions import Fraction

from momentrows.places import Place
from momentrows.polys import Poly
from momentrows.ratios import Ratio
from momentrows.rows import mean
from momentrows.steps import kind, steps
from tests import oracles
from tests.families import HALF, PLACES, lots, row, samples
from tests.oracles import row_of
from tests.samples import Source, coefficients, fraction, place, ratio


def plain(found):
    """The returned steps with fractions of Python; it also checks the kinds of the values."""
    assert type(found) is list
    for step in found:
        assert type(step) is tuple and type(step[0]) is int, step
    return [(k, coefficients(u), coefficients(p), fraction(worth)) for k, u, p, worth in found]


class Steps(unittest.TestCase):
    """Point [16]."""

    def test_against_linear_equations(self):
        for low, high in PLACES:
            for numbers in samples(low, high):
                self.assertEqual(plain(steps(row(numbers), place(low, high))), oracles.steps(numbers, low, high))

    def check_definition(self, numbers, where):
        """All that point [16] says of one list of steps, by mean alone."""
        found = steps(numbers, where)
        order = []
        for k, u, p, worth in found:
            s, odd = divmod(k - u.degree, 2)
            self.assertEqual((odd, p.degree, p.lead), (0, s, 1))
            self.assertIn(u, where.factors(k % 2))
            for j in range(s):
                self.assertEqual(mean(numbers, u * p * Poly([0] * j + [1])), 0)
            self.assertEqual(mean(numbers, u * p * p), worth)
            order.append((k, where.all_factors().index(u)))
        bad = [k for k, u, p, worth in found if worth <= 0]
        last = min(bad) if bad else len(numbers) - 1
        wanted = [(k, j) for k in range(last + 1) for j, u in enumerate(where.all_factors())
                  if u.degree <= k and (k - u.degree) % 2 == 0]
        self.assertEqual(order, wanted)

    def test_definition(self):
        for low, high in PLACES:
            for numbers in samples(low, high)[::3]:
                self.check_definition(row(numbers), place(low, high))

    def test_a_known_segment(self):
        found = steps([1, Ratio(1, 2), Ratio(1, 3), Ratio(1, 4)], Place(0, 1))
        x = Poly([0, 1])
        one = Poly([1])
        self.assertEqual(found, [
            (0, one, one, Ratio(1)),
            (1, x, one, Ratio(1, 2)), (1, 1 - x, one, Ratio(1, 2)),
            (2, one, x - Ratio(1, 2), Ratio(1, 12)), (2, x * (1 - x), one, Ratio(1, 6)),
            (3, x, x - Ratio(2, 3), Ratio(1, 36)), (3, 1 - x, x - Ratio(1, 3), Ratio(1, 36)),
        ])

    def test_the_line_has_no_odd_steps(self):
        normal = [1, 0, 1, 0, 3, 0, 15, 0, 105]
        found = steps(normal, Place())
        self.assertEqual([k for k, u, p, worth in found], [0, 2, 4, 6, 8])
        self.assertEqual([worth for k, u, p, worth in found], [1, 1, 2, 6, 24])
        self.assertEqual(coefficients(found[3][2]), [0, -3, 0, 1])
        self.assertEqual(steps(normal[:8], Place()), found[:4])
        self.assertEqual([k for k, u, p, worth in steps([1, 5], Place())], [0])

    def test_one_number(self):
        for where in (Place(), Place(-3), Place(1, 2)):
            for number in (3, 0, -2, Ratio(1, 7), 10 ** 400 - 1):
                self.assertEqual(plain(steps([number], where)), [(0, [1], [1], fraction(Ratio(1) * number))])

    def test_the_first_worth_of_zero_ends_the_list(self):
        found = steps([1, 0, 0, 0, 1], Place())
        self.assertEqual(plain(found), [(0, [1], [1], 1), (2, [1], [0, 1], 0)])
        found = steps([1, 0, 5, 5], Place(0, 1))
        self.assertEqual(plain(found), [(0, [1], [1], 1), (1, [0, 1], [1], 0), (1, [1, -1], [1], 1)])
        found = steps([1, 1, 5, 5], Place(0, 1))
        self.assertEqual(plain(found), [(0, [1], [1], 1), (1, [0, 1], [1], 1), (1, [1, -1], [1], 0)])

    def test_the_first_worth_below_zero_ends_the_list(self):
        self.assertEqual(plain(steps([-1, 2, 3], Place(0, 1))), [(0, [1], [1], -1)])
        found = steps([1, -3, 5, 5], Place(0, 1))
        self.assertEqual(plain(found), [(0, [1], [1], 1), (1, [0, 1], [1], -3), (1, [1, -1], [1], 4)])
        found = steps([2, 2, 1, 9, 9], Place(0))
        self.assertEqual(plain(found), [(0, [1], [1], 2), (1, [0, 1], [1], 2), (2, [1], [-1, 1], -1)])

    def test_long_numbers(self):
        source = Source(3)
        numbers = [ratio(Fraction(10 ** 399 // (k + 1) + source.integer(390), 10 ** 399 + source.integer(390)))
                   for k in range(13)]
        self.assertEqual(kind(numbers, Place(0, 1)), ("inside",))
        for where, size in ((Place(), 13), (Place(0), 9), (Place(0, 1), 6)):
            self.check_definition(numbers[:size], where)
        points, weights = source.fractions(4, 100), [abs(x) for x in source.fractions(4, 100)]
        numbers = row(row_of(points, weights, 13))
        self.check_definition(numbers, Place())
        self.check_definition(numbers, place(min(points), max(points)))

    def test_the_same_answer_each_time(self):
        numbers = row(row_of([0, HALF, 1, 3], [1, 2, HALF, 1], 9))
        for where in (Place(), Place(-1), Place(-1, 4)):
            first = steps(numbers, where)
            again = steps(tuple(numbers), where)
            self.assertEqual(first, again)
            first[0] = None
            first.append(3)
            self.assertEqual(steps(row=numbers, place=where), again)
            self.assertEqual(numbers, row(row_of([0, HALF, 1, 3], [1, 2, HALF, 1], 9)))


class Kinds(unittest.TestCase):
    """Points [17] and [18]."""

    def test_against_linear_equations(self):
        for low, high in PLACES:
            for numbers in samples(low, high):
                found = kind(row(numbers), place(low, high))
                self.assertEqual(found, oracles.kind(numbers, low, high))
                self.assertIs(type(found), tuple)
                self.assertTrue(all(type(k) is int for k in found[1:]))

    def test_document(self):
        self.assertEqual(kind([1, 0, 0, 0, 1], Place()), ("border", 2))

    def test_known_kinds(self):
        self.assertEqual(kind([1], Place()), ("inside",))
        self.assertEqual(kind([0], Place(0)), ("border", 0))
        self.assertEqual(kind([0, 7, 7], Place(0, 1)), ("border", 0))
        self.assertEqual(kind([Ratio(-1, 10 ** 400)], Place(0, 1)), ("out", 0))
        self.assertEqual(kind([1, -5], Place()), ("inside",))
        self.assertEqual(kind([1, -5], Place(0)), ("out", 1))
        self.assertEqual(kind([1, -5], Place(-5)), ("border", 1))
        self.assertEqual(kind([1, -5], Place(-5, 0)), ("border", 1))
        self.assertEqual(kind([1, 0], Place(-5, 0)), ("border", 1))
        self.assertEqual(kind([1, 1], Place(-5, 0)), ("out", 1))
        self.assertEqual(kind([1, 2, 4], Place()), ("border", 2))
        self.assertEqual(kind([1, 2, 3], Place()), ("out", 2))
        self.assertEqual(kind([1, 2, 5], Place(0)), ("inside",))
        self.assertEqual(kind([1, Ratio(1, 2), Ratio(1, 2)], Place(0, 1)), ("border", 2))
        self.assertEqual(kind([1, Ratio(1, 2), Ratio(2, 3)], Place(0, 1)), ("out", 2))
        self.assertEqual(kind(row=(1, 0, 1, 0, 3, 0, 9), place=Place()), ("border", 6))
        self.assertEqual(kind(row=(1, 0, 1, 0, 3, 0, 8), place=Place()), ("out", 6))

    def test_only_the_first_bad_step_counts(self):
        self.assertEqual(kind([1, 0, 0, 0, -5], Place()), ("border", 2))
        self.assertEqual(kind([0, -1, -1], Place(0)), ("border", 0))
        self.assertEqual(kind([1, 2, 3, 0, -5], Place()), ("out", 2))

    def test_rows_of_lots_are_never_out(self):
        for low, high in PLACES:
            for points in lots(low, high):
                for size in range(1, 14):
                    numbers = row_of(points, [1 + k for k in range(len(points))], size)
                    self.assertNotEqual(kind(row(numbers), place(low, high))[0], "out")

    def test_the_border_of_a_lot(self):
        """An end counts as half a point: a lot is at the border from twice the count of its points on."""
        for low, high in PLACES:
            for points in lots(low, high):
                numbers = row(row_of(points, [1 + k for k in range(len(points))], 13))
                k = sum(1 if x in (low, high) else 2 for x in points)
                self.assertEqual(kind(numbers, place(low, high)), ("border", k) if k < 13 else ("inside",))
                if 0 < k < 13:
                    self.assertEqual(kind(numbers[:k], place(low, high)), ("inside",))

    def test_the_points_of_the_border(self):
        """The fact of point [18]: the roots of u * p of the step with worth 0 are the points; it cancels the row."""
        for low, high in PLACES:
            for points in lots(low, high):
                numbers = row(row_of(points, [1 + k for k in range(len(points))], 13))
                where = place(low, high)
                found = kind(numbers, where)
                if found[0] == "inside":
                    continue
                zero = [u * p for k, u, p, worth in steps(numbers, where) if worth == 0]
                self.assertEqual(len(zero), 1)
                self.assertEqual(coefficients(zero[0].monic()), oracles.with_roots(*points))
                for j in range(13 - zero[0].degree):
                    self.assertEqual(mean(numbers, zero[0] * Poly([0] * j + [1])), 0)

    def test_never_two_bad_worths_at_one_k(self):
        for low, high in PLACES:
            for numbers in samples(low, high):
                found = steps(row(numbers), place(low, high))
                self.assertLessEqual(len([worth for k, u, p, worth in found if worth <= 0]), 1)


if __name__ == "__main__":
    unittest.main()
