"""Points [19] to [22]: lots, what may be asked of them, and changed lots."""

import unittest
from fractions import Fraction

from momentrows.errors import NoLot, NoNumber, TooMany
from momentrows.lots import Lot, lot_at
from momentrows.places import Place
from momentrows.polys import Poly
from momentrows.ratios import Ratio
from momentrows.roots import roots_after, roots_in
from tests import oracles
from tests.families import (
    HALF, PLACES, candidates, in_place, irrational_lots, known_lots, lot_of_fractions, power_sums, raised, row,
    weights_of,
)
from tests.oracles import row_of
from tests.samples import (
    NO_INTEGERS, NO_LISTS, NO_NUMBERS, STRANGE, Source, check_error, coefficients, fraction, fractions, place, poly,
    ratio,
)

KNOWN = known_lots()
IRRATIONAL = irrational_lots()
ALL = [lot for points, weights, lot in KNOWN] + IRRATIONAL
EMPTY = Lot(Poly([1]), [])
LONG = Fraction(10 ** 400 - 1, 10 ** 399 + 7)


def check_fields(case, lot):
    case.assertIs(type(lot), Lot)
    case.assertLessEqual({"poly", "begin", "count"}, set(vars(lot)))
    case.assertIs(type(lot.begin), tuple)
    case.assertIs(type(lot.count), int)
    found = coefficients(lot.poly)
    case.assertEqual(found[-1], 1)
    case.assertEqual((len(found) - 1, len(lot.begin)), (lot.count, lot.count))
    return found, [fraction(x) for x in lot.begin]


class Lots(unittest.TestCase):
    """Point [19]."""

    def test_points_and_weights(self):
        for points, weights, lot in KNOWN:
            p = oracles.with_roots(*points)
            begin = row_of(points, weights, len(points))
            self.assertEqual(check_fields(self, lot), (p, begin))
            made = Lot(poly(p), row(begin))
            self.assertEqual(check_fields(self, made), (p, begin))
            self.assertTrue(made == lot and not made != lot)
            self.assertEqual([fraction(made.weight(ratio(x))) for x in points], weights)

    def test_lists_tuples_names_and_integers(self):
        lot = Lot(poly=Poly([-1, 0, 1]), begin=(5, Ratio(-1)))
        self.assertEqual(check_fields(self, lot), ([-1, 0, 1], [5, -1]))
        begin = [5, -1]
        other = Lot(Poly([-1, 0, 1]), begin)
        begin[0] = 7
        begin.append(3)
        self.assertEqual(lot, other)
        self.assertEqual(begin, [7, -1, 3])

    def test_the_lot_of_no_points(self):
        for begin in ([], ()):
            lot = Lot(Poly([1]), begin)
            self.assertEqual(check_fields(self, lot), ([1], []))
            self.assertEqual(lot, lot_at([], []))

    def test_irrational_points(self):
        for lot in IRRATIONAL:
            found, begin = check_fields(self, lot)
            self.assertEqual(Lot(poly(found), row(begin)), lot)
            self.assertEqual(roots_in(lot.poly, None, None), lot.count)

    def test_no_poly(self):
        for p in (Poly([]), Poly([2]), Poly([-1]), Poly([1, 2]), Poly([1, -1]), Poly([1, Ratio(1, 2)]),
                  poly(oracles.with_roots(*range(9))), Poly([1] + [0] * 8 + [1]), Poly([0] * 20 + [1])):
            for begin in ([], [1], [1] * p.degree, None, [None]):
                check_error(self, NoLot, lambda: Lot(p, begin), part="poly")
        for value in STRANGE + [1, Ratio(1), [1], (1,)]:
            check_error(self, NoLot, lambda: Lot(value, []), part="poly")

    def test_no_roots(self):
        bad = [[1, 0, 1], [0, 0, 1], [1, -2, 1], [0, 1, 0, 1], [1, -1, -1, 1], [4, 0, -4, 0, 1], [1, 0, 0, 0, 1],
               [1, 0, 1, 0, 0, 0, 0, 0, 1], [0, 0, -2, 0, 1], oracles.with_roots(1, 2, 3, 4, 5, 6, 7, 7),
               oracles.times(oracles.with_roots(*range(6)), [1, 0, 1]), [Fraction(1, 10 ** 300), 0, 1],
               oracles.with_roots(LONG, LONG), oracles.with_roots(*[0] * 8)]
        for p in bad:
            size = len(p) - 1
            for begin in ([1] * size, [size] + [0] * (size - 1), row(power_sums([Fraction(x) for x in p], size)),
                          [1] * (size + 1), [], None, [None] * size, "12"):
                check_error(self, NoLot, lambda: Lot(poly(p), begin), part="roots")

    def test_no_begin(self):
        for points in ([], [1], [0, 3], range(8)):
            p = poly(oracles.with_roots(*points))
            size = len(points)
            for value in NO_LISTS:
                check_error(self, NoLot, lambda: Lot(p, value), part="begin")
            for begin in ([1] * (size + 1), (1,) * (size + 2), [1] * 13):
                check_error(self, NoLot, lambda: Lot(p, begin), part="begin")
            if size > 0:
                check_error(self, NoLot, lambda: Lot(p, [1] * (size - 1)), part="begin")
                for item in NO_NUMBERS:
                    for at in {0, size - 1}:
                        begin = [1] * size
                        begin[at] = item
                        check_error(self, NoLot, lambda: Lot(p, begin), part="begin")

    def test_no_weights(self):
        for points, weights, lot in KNOWN:
            for at in range(len(points)):
                for weight in (0, -weights[at], Fraction(-1, 10 ** 60)):
                    changed = weights[:at] + [Fraction(weight)] + weights[at + 1:]
                    begin = row(row_of(points, changed, len(points)))
                    check_error(self, NoLot, lambda: Lot(lot.poly, begin), part="weights")
                changed = weights[:at] + [Fraction(1, 10 ** 60)] + weights[at + 1:]
                self.assertEqual(Lot(lot.poly, row(row_of(points, changed, len(points)))).count, len(points))
        for begin in ([1, 2], [1, -2], [0, 0], [-1, 0], [1, Ratio(3, 2)]):
            check_error(self, NoLot, lambda: Lot(Poly([-2, 0, 1]), begin), part="weights")
        self.assertEqual(Lot(Poly([-2, 0, 1]), [1, Ratio(7, 5)]).count, 2)

    def test_equal(self):
        lot = Lot(Poly([-1, 0, 1]), [5, -1])
        self.assertEqual(lot, lot_at([Ratio(1), -1], [2, 3]))
        for other in (lot_at([1, -1], [3, 2]), lot_at([1, -2], [2, 3]), lot_at([1], [2]), EMPTY,
                      Lot(Poly([-2, 0, 1]), [5, -1])):
            self.assertTrue(lot != other and not lot == other)

    def test_long_numbers(self):
        points = [LONG, -LONG, 1 / LONG, LONG + Fraction(1, 10 ** 400)]
        weights = [1 / LONG, LONG * LONG, Fraction(1, 10 ** 400), Fraction(10 ** 400)]
        lot = lot_of_fractions(points, weights)
        self.assertEqual(Lot(lot.poly, lot.begin), lot)
        self.assertEqual([fraction(lot.weight(ratio(x))) for x in points], weights)
        weights[2] = -weights[2]
        check_error(self, NoLot, lambda: Lot(lot.poly, row(row_of(points, weights, 4))), part="weights")


class Questions(unittest.TestCase):
    """Point [20]."""

    def test_row(self):
        for points, weights, lot in KNOWN:
            wanted = row_of(points, weights, 61)
            for d in (0, 1, len(points), 2 * len(points), 13, 60):
                self.assertEqual(fractions(lot.row(d)), wanted[:d + 1])
        self.assertEqual(fractions(EMPTY.row(60)), [0] * 61)
        for p in ([-2, 0, 1], [1, -3, 0, 1], [2, 0, -4, 0, 1]):
            sums = power_sums([Fraction(x) for x in p], 61)
            self.assertEqual(fractions(Lot(poly(p), row(sums[:len(p) - 1])).row(d=60)), sums)

    def test_row_refuses(self):
        for lot in (EMPTY, KNOWN[-1][2]):
            for d in NO_INTEGERS + [-1, 61, 10 ** 30, -10 ** 30]:
                check_error(self, NoNumber, lambda: lot.row(d), word="d")

    def test_rows_are_new(self):
        lot = lot_at([1, -1], [2, 3])
        found = lot.row(1)
        found[0] = 9
        found.append(1)
        self.assertEqual(fractions(lot.row(1)), [5, -1])
        self.assertEqual(lot, lot_at([1, -1], [2, 3]))

    def test_mean(self):
        source = Source(8)
        polys = [[], [1], [0, 0, 1], [-3, HALF, 7], source.fractions(14, 2), [0] * 60 + [Fraction(1)],
                 source.fractions(30, 30)]
        for points, weights, lot in KNOWN:
            for p in polys:
                wanted = sum((w * oracles.value(p, x) for x, w in zip(points, weights)), Fraction(0))
                self.assertEqual(fraction(lot.mean(poly(p))), wanted)
        for lot in IRRATIONAL:
            numbers = [fraction(x) for x in lot.row(60)]
            for p in polys:
                self.assertEqual(fraction(lot.mean(p=poly(p))), oracles.mean(numbers, p))
            self.assertEqual(fraction(lot.mean(lot.poly * Poly([1, 2, 3]))), 0)
        # A little beyond the limit there is no error.
        self.assertEqual(fraction(lot_at([1], [2]).mean(Poly([0] * 65 + [1]))), 2)

    def test_is_in(self):
        ends = [Fraction(x) for x in (-5, -3, -2, 0, 1, 3, 100)] + [Fraction(-1, 3), HALF, Fraction(3, 4), Fraction(99)]
        for points, weights, lot in KNOWN:
            self.assertIs(lot.is_in(Place()), True)
            for low in ends:
                self.assertIs(lot.is_in(place(low, None)), in_place(points, low, None))
                for high in ends:
                    if low < high:
                        self.assertIs(lot.is_in(place=place(low, high)), in_place(points, low, high))

    def test_is_in_beside_irrational_points(self):
        for lot in IRRATIONAL:
            for x in range(-12, 13):
                low = Ratio(x, 4)
                self.assertIs(lot.is_in(Place(low)), roots_in(lot.poly, low, None) == lot.count)
                for size in (1, 3, 8):
                    self.assertIs(lot.is_in(Place(low, low + size)), roots_in(lot.poly, low, low + size) == lot.count)

    def test_has_and_weight(self):
        for points, weights, lot in KNOWN:
            for low, high in PLACES[:3]:
                for x in candidates(low, high) + points:
                    at = ratio(x)
                    self.assertIs(lot.has(at), x in points)
                    self.assertEqual(fraction(lot.weight(at)), dict(zip(points, weights)).get(x, 0))
        self.assertIs(EMPTY.has(0), False)
        self.assertEqual(fraction(EMPTY.weight(x=0)), 0)
        self.assertIs(lot_at([3], [2]).has(x=3), True)
        mixed = Lot(Poly([0, -2, 0, 1]), [5, 1, 4])
        self.assertEqual(fraction(mixed.weight(0)), 3)
        self.assertIs(mixed.has(Ratio(1414213562373095, 10 ** 15)), False)
        for lot in (EMPTY, mixed):
            for x in NO_NUMBERS:
                check_error(self, NoNumber, lambda: lot.has(x), word="x")
                check_error(self, NoNumber, lambda: lot.weight(x), word="x")

    def check_near(self, lot, width):
        """All that can be checked without knowing the points; returns the intervals as fractions."""
        found = lot.near(width=width)
        self.assertIs(type(found), list)
        self.assertEqual(len(found), lot.count)
        plain = []
        for part in found:
            self.assertIs(type(part), tuple)
            low, high, least, most = [fraction(x) for x in part]
            self.assertTrue(0 <= high - low <= fraction(width) and 0 <= most - least <= fraction(width))
            self.assertEqual(roots_in(lot.poly, part[0], part[1]) >= 1, True)
            plain.append((low, high, least, most))
        return plain

    def test_near_known_points(self):
        for points, weights, lot in KNOWN:
            for width in (Ratio(1, 10 ** 20), Ratio(1), Ratio(10 ** 6)):
                pairs = sorted(zip(points, weights))
                for (x, w), (low, high, least, most) in zip(pairs, self.check_near(lot, width)):
                    self.assertTrue(low <= x <= high and least <= w <= most)

    def test_near_irrational_points(self):
        width = Ratio(1, 10 ** 30)
        for lot in IRRATIONAL:
            found = self.check_near(lot, width)
            for one, two in zip(found, found[1:]):
                self.assertLess(one[1], two[0])
            for k in range(2 * lot.count):
                total = sum((a + b) / 2 * ((c + d) / 2) ** k for c, d, a, b in found)
                self.assertLess(abs(total - fraction(lot.row(k)[k])), Fraction(1, 10 ** 12))
        for low, high, least, most in self.check_near(Lot(Poly([-2, 0, 1]), [3, 4]), width):
            # The weights of 3 = v + w and 4 = (w - v) * sqrt(2) are 3/2 -+ sqrt(2).
            sign = 1 if low > 0 else -1
            self.assertLessEqual((sign * (least - Fraction(3, 2))) ** 2 - 2, Fraction(1, 10 ** 29))
            self.assertLess(abs((sign * (most - Fraction(3, 2))) ** 2 - 2), Fraction(1, 10 ** 28))

    def test_near_close_points(self):
        tiny = Fraction(1, 10 ** 60)
        points = [HALF, HALF + tiny, HALF + 2 * tiny, Fraction(2)]
        weights = [Fraction(1), Fraction(10 ** 9), Fraction(1, 10 ** 9), Fraction(1, 7)]
        lot = lot_of_fractions(points, weights)
        for width in (Ratio(1), Ratio(1, 10 ** 5), Ratio(1, 10 ** 80)):
            for x, w, part in zip(points, weights, self.check_near(lot, width)):
                self.assertTrue(part[0] <= x <= part[1] and part[2] <= w <= part[3])

    def test_near_refuses(self):
        for lot in (EMPTY, KNOWN[-1][2]):
            for width in NO_NUMBERS + [0, -1, Ratio(0), Ratio(-1, 10 ** 9)]:
                check_error(self, NoNumber, lambda: lot.near(width=width), word="width")
        with self.assertRaises(TypeError):
            EMPTY.near(1)
        self.assertEqual(EMPTY.near(width=1), [])

    def test_near_is_new_and_the_same_each_time(self):
        for lot in IRRATIONAL[:3]:
            found = lot.near(width=1)
            again = Lot(lot.poly, list(lot.begin)).near(width=Ratio(1))
            self.assertEqual(found, again)
            found.clear()
            self.assertEqual(lot.near(width=1), again)

    def check_share(self, lot, low, high, width):
        found = lot.share(low, high, width=width)
        self.assertIs(type(found), tuple)
        least, most = [fraction(x) for x in found]
        self.assertTrue(0 <= most - least <= fraction(Ratio(1) * width))
        return least, most

    def test_share_of_known_points(self):
        ends = [None, Fraction(-5), Fraction(-2), Fraction(0), Fraction(1, 4), HALF, Fraction(1), Fraction(101)]
        for points, weights, lot in KNOWN[::3] + KNOWN[-1:]:
            for low in ends:
                for high in ends:
                    wanted = sum((w for x, w in zip(points, weights)
                                  if (low is None or low <= x) and (high is None or x <= high)), Fraction(0))
                    for width in (Ratio(1, 10 ** 15), 3):
                        least, most = self.check_share(lot, low if low is None else ratio(low),
                                                       high if high is None else ratio(high), width)
                        self.assertTrue(least <= wanted <= most)

    def test_share_of_irrational_points(self):
        lot = Lot(Poly([0, -2, 0, 1]), [5, 1, 4])
        # The weights are 1 - sqrt(2) / 4, 3 and 1 + sqrt(2) / 4.
        width = Ratio(1, 10 ** 20)
        root = Fraction(141421356237309504880, 10 ** 20)
        side = 1 + root / 4
        near = Fraction(1, 10 ** 19)
        for low, high, wanted in ((None, None, 5), (None, -1, 2 - side), (-1, 1, 3), (0, 0, 3), (0, None, 3 + side),
                                  (Ratio(141421356, 10 ** 8), 9, side), (Ratio(141421357, 10 ** 8), 9, 0), (1, -1, 0),
                                  (5, None, 0), (None, Ratio(141421356, 10 ** 8), 5 - side)):
            least, most = self.check_share(lot, low, high, width)
            self.assertTrue(least - near <= wanted <= most + near, (low, high))
        self.assertEqual(lot.share(low=2, high=1, width=1), (0, 0))
        self.assertEqual(EMPTY.share(None, None, width=1), (0, 0))

    def test_share_refuses(self):
        for lot in (EMPTY, KNOWN[-1][2]):
            for value in NO_NUMBERS:
                if value is not None:
                    check_error(self, NoNumber, lambda: lot.share(value, value, width=0), word="low")
                    check_error(self, NoNumber, lambda: lot.share(None, value, width=None), word="high")
                    check_error(self, NoNumber, lambda: lot.share(1, value, width=1), word="high")
                check_error(self, NoNumber, lambda: lot.share(None, None, width=value), word="width")
            for width in (0, -1, Ratio(-1, 2)):
                check_error(self, NoNumber, lambda: lot.share(2, 1, width=width), word="width")
        with self.assertRaises(TypeError):
            EMPTY.share(1, 2, 1)

    def test_long_numbers(self):
        points = [LONG, -LONG, 1 / LONG]
        weights = [1 / LONG, LONG * LONG, Fraction(1, 10 ** 400)]
        lot = lot_of_fractions(points, weights)
        self.assertEqual(fractions(lot.row(8)), row_of(points, weights, 9))
        self.assertIs(lot.is_in(place(-LONG, LONG)), True)
        self.assertIs(lot.is_in(place(-LONG + Fraction(1, 10 ** 400), LONG)), False)
        width = Ratio(1, 10 ** 400)
        for (x, w), part in zip(sorted(zip(points, weights)), self.check_near(lot, width)):
            self.assertTrue(part[0] <= x <= part[1] and part[2] <= w <= part[3])
        least, most = self.check_share(lot, ratio(1 / LONG), None, width)
        self.assertTrue(least <= weights[0] + weights[2] <= most)


class Changed(unittest.TestCase):
    """Point [21]."""

    def test_moved_and_stretched(self):
        for points, weights, lot in KNOWN:
            for by in (Fraction(0), Fraction(1), Fraction(-7, 3), Fraction(10 ** 20)):
                self.assertEqual(lot.moved(by=ratio(by)), lot_of_fractions([x + by for x in points], weights))
                if by != 0:
                    self.assertEqual(lot.stretched(ratio(by)), lot_of_fractions([x * by for x in points], weights))
        for lot in IRRATIONAL:
            self.assertEqual(lot.moved(2).moved(-2), lot)
            self.assertEqual(lot.stretched(by=-3).stretched(Ratio(-1, 3)), lot)
            self.assertEqual(lot.moved(3).poly(3 + Ratio(1, 2)), lot.poly(Ratio(1, 2)))
            numbers = [fraction(x) for x in lot.row(9)]
            self.assertEqual(fractions(lot.stretched(-2).row(9)), [(-2) ** k * x for k, x in enumerate(numbers)])
            check_fields(self, lot.moved(LONG.numerator))

    def test_moved_and_stretched_refuse(self):
        for lot in (EMPTY, KNOWN[-1][2]):
            for by in NO_NUMBERS:
                check_error(self, NoNumber, lambda: lot.moved(by), word="by")
                check_error(self, NoNumber, lambda: lot.stretched(by), word="by")
            check_error(self, NoNumber, lambda: lot.stretched(0), word="by")
            check_error(self, NoNumber, lambda: lot.stretched(Ratio(0)), word="by")

    def test_sums(self):
        for points, weights, lot in KNOWN[::2]:
            for others, masses, other in KNOWN[::5] + KNOWN[-1:]:
                both = dict(zip(points, weights))
                for x, w in zip(others, masses):
                    both[x] = both.get(x, 0) + w
                if len(both) > 8:
                    check_error(self, TooMany, lambda: lot + other)
                else:
                    self.assertEqual(lot + other, lot_of_fractions(list(both), list(both.values())))
                    check_fields(self, lot + other)

    def test_sums_of_irrational_lots(self):
        one = Lot(Poly([0, -2, 0, 1]), [5, 1, 4])
        two = Lot(Poly([-2, 0, 1]), [3, 4])
        found = one + two
        self.assertEqual(found, Lot(Poly([0, -2, 0, 1]), [8, 5, 10]))
        self.assertEqual(one + EMPTY, one)
        self.assertEqual(EMPTY + one, one)
        for one in IRRATIONAL:
            self.assertEqual(one + one, one * 2)
            for two in IRRATIONAL:
                error = raised(lambda: one + two)
                if error is None:
                    both = [fraction(a) + fraction(b) for a, b in zip(one.row(20), two.row(20))]
                    self.assertEqual(fractions((one + two).row(20)), both)
                    self.assertEqual(one + two, two + one)
                else:
                    self.assertIs(type(error), TooMany)
                    self.assertGreater(one.count + two.count, 8)

    def test_times(self):
        for points, weights, lot in KNOWN:
            for number in (Fraction(1), Fraction(7, 3), Fraction(1, 10 ** 400)):
                self.assertEqual(lot * ratio(number), lot_of_fractions(points, [w * number for w in weights]))
            self.assertEqual(lot * 0, EMPTY)
            self.assertEqual(lot * Ratio(0), EMPTY)
            check_fields(self, lot * 3)
        for lot in IRRATIONAL:
            self.assertEqual(lot * 3, lot + lot + lot)
            self.assertEqual(lot * Ratio(0), EMPTY)

    def test_times_refuses(self):
        for lot in (EMPTY, KNOWN[-1][2]):
            for number in NO_NUMBERS + [-1, Ratio(-1, 10 ** 400), lot]:
                check_error(self, NoNumber, lambda: lot * number, word="number")

    def test_the_lots_stay(self):
        for lot in ALL[::4]:
            before = (lot.poly.coefficients, lot.begin, lot.count)
            lot.moved(3), lot.stretched(-2), lot * 5, lot + lot, lot.row(20)
            lot.near(width=1), lot.share(0, 1, width=1)
            self.assertEqual((lot.poly.coefficients, lot.begin, lot.count), before)


class LotAt(unittest.TestCase):
    """Point [22]."""

    def test_any_order(self):
        points = [Fraction(3), Fraction(-1, 2), Fraction(0), Fraction(10)]
        weights = weights_of(points)
        lot = lot_of_fractions(points, weights)
        check_fields(self, lot)
        self.assertEqual(fractions(lot.row(9)), row_of(points, weights, 10))
        self.assertEqual(lot_of_fractions(points[::-1], weights[::-1]), lot)
        self.assertEqual(lot_at(points=tuple(row(points)), weights=tuple(row(weights))), lot)
        self.assertEqual(lot_at([], ()), EMPTY)

    def test_document(self):
        self.assertEqual(fractions(lot_at([1, -1], [2, 3]).row(3)), [5, -1, 5, -1])

    def test_refused_points(self):
        for value in NO_LISTS:
            check_error(self, NoLot, lambda: lot_at(value, [1]), part="points")
        for points in ([1, 1], [1, 2, Ratio(2, 2)], [Ratio(1, 2), 3, Ratio(2, 4)], list(range(9)), [0] * 20):
            for weights in ([1] * len(points), None, []):
                check_error(self, NoLot, lambda: lot_at(points, weights), part="points")
        for item in NO_NUMBERS:
            check_error(self, NoLot, lambda: lot_at([item], [1]), part="points")
            check_error(self, NoLot, lambda: lot_at([0, 1, item], [None]), part="points")
        self.assertEqual(lot_at(list(range(8)), [1] * 8).count, 8)

    def test_refused_weights(self):
        for value in NO_LISTS:
            check_error(self, NoLot, lambda: lot_at([1], value), part="weights")
        for weights in ([], [1], [1, 2, 3], [0, 1], [1, 0], [1, -1], [Ratio(-1, 9), 1], [1, Ratio(0)]):
            check_error(self, NoLot, lambda: lot_at([4, 5], weights), part="weights")
        check_error(self, NoLot, lambda: lot_at([], [1]), part="weights")
        for item in NO_NUMBERS:
            check_error(self, NoLot, lambda: lot_at([4, 5], [item, 1]), part="weights")
            check_error(self, NoLot, lambda: lot_at([4, 5], [1, item]), part="weights")

    def test_what_was_passed_stays(self):
        points, weights = [1, Ratio(1, 2)], [2, 3]
        lot = lot_at(points, weights)
        self.assertEqual((points, weights), ([1, Ratio(1, 2)], [2, 3]))
        points[0] = 7
        weights.append(1)
        self.assertEqual(lot, lot_at([Ratio(1, 2), 1], [3, 2]))

    def test_roots_are_the_points(self):
        for points, weights, lot in KNOWN:
            for x in points:
                self.assertEqual(roots_after(lot.poly, ratio(x) - Ratio(1, 10 ** 500), ratio(x)), 1)


if __name__ == "__main__":
    unittest.main()
