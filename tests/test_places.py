"""Points [11] and [12]: the class Place and its factors."""

import unittest
from fractions import Fraction

from momentrows.errors import NoNumber, NoPlace
from momentrows.places import Place
from momentrows.polys import Poly
from momentrows.ratios import Ratio
from tests import oracles
from tests.samples import NO_INTEGERS, NO_NUMBERS, Source, check_error, coefficients, fraction, place, ratio

LONG = Fraction(10 ** 400 - 1, 10 ** 399 + 7)
TINY = Fraction(1, 10 ** 400)
# Low and high ends, None for no end.
ENDS = [
    (None, None), (0, None), (-3, None), (Fraction(1, 2), None), (-LONG, None), (0, 1), (-1, 1),
    (Fraction(-7, 3), Fraction(-1, 6)), (Fraction(1, 3), Fraction(1, 2)), (-LONG, LONG), (LONG, LONG + TINY), (0, TINY),
]
NUMBERS = [0, 1, -1, Fraction(1, 2), Fraction(-22, 7), 10 ** 400 - 1, -LONG, TINY]


def wrong_ends():
    """Values that are neither None nor a number."""
    return [x for x in NO_NUMBERS if x is not None]


def ends(where):
    """The fields as fractions of Python."""
    return tuple(None if x is None else fraction(x) for x in (where.low, where.high))


class Making(unittest.TestCase):
    """Point [11]."""

    def test_fields(self):
        for low, high in ENDS:
            self.assertEqual(ends(place(low, high)), (low, high))
        self.assertEqual(ends(Place()), (None, None))
        self.assertEqual(ends(Place(3)), (3, None))
        self.assertEqual(ends(Place(-2, 5)), (-2, 5))
        self.assertEqual(ends(Place(high=Ratio(4, 2), low=1)), (1, 2))
        self.assertEqual(ends(Place(None, None)), (None, None))
        self.assertEqual(ends(Place(0, high=None)), (0, None))

    def test_wrong_low(self):
        for low in wrong_ends():
            check_error(self, NoPlace, lambda: Place(low), part="low")
            for high in (None, 0, Ratio(1), "1", True):
                check_error(self, NoPlace, lambda: Place(low, high), part="low")

    def test_wrong_high(self):
        for high in wrong_ends():
            for low in (None, 0, Ratio(1, 2), 10 ** 400):
                check_error(self, NoPlace, lambda: Place(low, high), part="high")
            check_error(self, NoPlace, lambda: Place(high=high), part="high")

    def test_wrong_order(self):
        for low, high in ((None, 0), (None, Ratio(1, 2)), (0, 0), (1, 0), (Ratio(1, 2), Ratio(1, 2)), (1, Ratio(2, 2)),
                          (Ratio(2, 4), Ratio(-1, 2)), (10 ** 400, 10 ** 400 - 1), (ratio(LONG + TINY), ratio(LONG))):
            check_error(self, NoPlace, lambda: Place(low, high), part="order")

    def test_equality(self):
        for k, one in enumerate(ENDS):
            for j, other in enumerate(ENDS):
                self.assertIs(place(*one) == place(*other), k == j)
                self.assertIs(place(*one) != place(*other), k != j)
        self.assertEqual(Place(1, 2), Place(Ratio(3, 3), Ratio(4, 2)))

    def test_members(self):
        for low, high in ENDS:
            where = place(low, high)
            for x in NUMBERS + [y + step for y in (low, high) if y is not None for step in (-1, -TINY, 0, TINY, 1)]:
                inside = (low is None or x >= low) and (high is None or x <= high)
                self.assertIs(ratio(x) in where, inside)
                self.assertIs(ratio(x) not in where, not inside)
                if x == int(x):
                    self.assertIs(int(x) in where, inside)

    def test_line_and_segment(self):
        for low, high in ENDS:
            self.assertIs(place(low, high).is_line(), low is None)
            self.assertIs(place(low, high).is_segment(), high is not None)

    def test_moved(self):
        for low, high in ENDS:
            where = place(low, high)
            for by in NUMBERS:
                wanted = tuple(None if x is None else x + by for x in (low, high))
                self.assertEqual(ends(where.moved(ratio(by))), wanted)
                self.assertIs(type(where.moved(ratio(by))), Place)
            self.assertEqual(where.moved(by=7), where.moved(Ratio(7)))
            self.assertEqual(where.moved(3).moved(-3), where)
            self.assertEqual(ends(where), (low, high))

    def test_stretched(self):
        for low, high in ENDS:
            where = place(low, high)
            for by in NUMBERS:
                if by > 0:
                    wanted = tuple(None if x is None else x * by for x in (low, high))
                    self.assertEqual(ends(where.stretched(ratio(by))), wanted)
            self.assertEqual(where.stretched(by=7), where.stretched(Ratio(14, 2)))
            self.assertEqual(ends(where), (low, high))

    def test_wrong_ways(self):
        for low, high in ENDS[::2]:
            where = place(low, high)
            for by in NO_NUMBERS:
                check_error(self, NoNumber, lambda: where.moved(by), word="by")
                check_error(self, NoNumber, lambda: where.stretched(by), word="by")
            for by in (0, -1, Ratio(0), Ratio(-1, 2), ratio(-TINY)):
                check_error(self, NoNumber, lambda: where.stretched(by), word="by")


class Factors(unittest.TestCase):
    """Point [12]."""

    def test_all_factors(self):
        for low, high in ENDS:
            found = place(low, high).all_factors()
            self.assertIs(type(found), list)
            self.assertEqual([coefficients(p) for p in found], oracles.factors(low, high))

    def test_known_factors(self):
        x = Poly([0, 1])
        self.assertEqual(Place().all_factors(), [Poly([1])])
        self.assertEqual(Place(3).all_factors(), [Poly([1]), x - 3])
        self.assertEqual(Place(-1, 2).all_factors(), [Poly([1]), x + 1, 2 - x, (x + 1) * (2 - x)])

    def test_factors_of_a_parity(self):
        for low, high in ENDS:
            where = place(low, high)
            for parity in (0, 1):
                wanted = [p for p in oracles.factors(low, high) if (len(p) - 1) % 2 == parity]
                found = where.factors(parity)
                self.assertIs(type(found), list)
                self.assertEqual([coefficients(p) for p in found], wanted)
                self.assertEqual(where.factors(parity=parity), found)
        self.assertEqual(Place().factors(1), [])

    def test_never_below_zero_in_the_place(self):
        source = Source(2)
        for low, high in ENDS:
            where = place(low, high)
            for x in source.fractions(20, 2) + [y for y in (low, high) if y is not None]:
                if ratio(x) in where:
                    for p in where.all_factors():
                        self.assertGreaterEqual(p(ratio(x)), 0)

    def test_changes_of_the_lists_have_no_effect(self):
        where = Place(0, 1)
        for call in (where.all_factors, lambda: where.factors(0), lambda: where.factors(1)):
            first = call()
            again = call()
            self.assertEqual(first, again)
            first.append(None)
            first[0] = Poly([7])
            self.assertEqual(call(), again)

    def test_wrong_parity(self):
        for low, high in ENDS[::3]:
            for parity in [2, -1, 3, 10 ** 30, Ratio(0), *NO_INTEGERS]:
                check_error(self, NoNumber, lambda: place(low, high).factors(parity), word="parity")


if __name__ == "__main__":
    unittest.main()
