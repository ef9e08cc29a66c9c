"""Points [41] to [45]: principal lots, shaped Polys and lots that alternate."""

import unittest
from fractions import Fraction

from momentrows.deciding import check_lot, has_lot, lot_of
from momentrows.errors import NoLotThere, NoNumber, NoRow, NoShape
from momentrows.further import mean_fits, next_fits
from momentrows.lots import Lot, lot_at
from momentrows.places import Place
from momentrows.polys import Poly
from momentrows.principal import alternate, is_shaped, lower_lot, shaped_fits, shaped_papers, upper_lot
from momentrows.ratios import Ratio
from momentrows.roots import is_never_below, roots_in
from momentrows.rows import mean
from momentrows.steps import kind
from momentrows.weights import extreme_lot, most_at
from tests.families import HALF, PLACES, irrational_lots, known_lots, lots, row, samples, weights_of
from tests.oracles import row_of
from tests.samples import NO_INTEGERS, NO_LISTS, Source, check_error, fraction, place, poly, ratio

X = Poly([0, 1])
EMPTY = Lot(Poly([1]), [])


def rows_with_a_lot(low, high):
    return [row(numbers) for numbers in samples(low, high) if has_lot(row(numbers), place(low, high))]


def within(lot, where):
    """How many points are no ends of the place."""
    return lot.count - len([end for end in (where.low, where.high) if end is not None and lot.has(end)])


class PrincipalLots(unittest.TestCase):
    """Point [41]."""

    def check(self, numbers, where):
        ends = next_fits(numbers, where)
        found = lower_lot(row=numbers, place=where), upper_lot(row=numbers, place=where)
        for end, lot in zip(ends, found):
            if end is None:
                self.assertIsNone(lot)
                continue
            self.assertIs(type(lot), Lot)
            self.assertIsNone(check_lot(numbers, where, lot))
            self.assertEqual(lot.row(len(numbers))[-1], end)
            self.assertEqual(Lot(lot.poly, lot.begin), lot)
            if len(numbers) < 13:
                self.assertEqual(lot, lot_of(numbers + [end], where))
        return found

    def test_the_lots_at_the_ends(self):
        for low, high in PLACES:
            for numbers in rows_with_a_lot(low, high)[::2]:
                lower, upper = self.check(numbers, place(low, high))
                if kind(numbers, place(low, high)) != ("inside",):
                    only = lot_of(numbers, place(low, high))
                    self.assertEqual((lower, upper), (only, only))

    def test_counts_of_points(self):
        for low, high in PLACES:
            where = place(low, high)
            for numbers in rows_with_a_lot(low, high)[::2]:
                if kind(numbers, where) != ("inside",):
                    continue
                n, odd = divmod(len(numbers) - 1, 2)
                lower, upper = lower_lot(numbers, where), upper_lot(numbers, where)
                if odd:
                    self.assertEqual((lower.count, within(lower, where)), (n + 1, n + 1))
                elif low is None:
                    self.assertIsNone(lower)
                else:
                    self.assertEqual((lower.count, within(lower, where), lower.has(where.low)), (n + 1, n, True))
                if high is None:
                    self.assertIsNone(upper)
                else:
                    self.assertTrue(upper.has(where.high))
                    self.assertEqual((upper.count, within(upper, where)), (n + 2 if odd else n + 1, n))
                    self.assertIs(alternate(lower, upper), True)

    def test_the_most_weight_at_their_points(self):
        for low, high in PLACES:
            where = place(low, high)
            for numbers in rows_with_a_lot(low, high)[::5]:
                for lot in (lower_lot(numbers, where), upper_lot(numbers, where)):
                    points = [] if lot is None else [end for end in (where.low, where.high) if end is not None]
                    if lot is not None and lot.count == 1:
                        points = points + [-lot.poly.coefficients[0]]
                    for x in points:
                        if lot.has(x):
                            self.assertEqual(lot.weight(x), most_at(numbers, where, x))
                            if high is not None:
                                self.assertEqual(extreme_lot(numbers, where, x), lot)

    def test_rows_of_known_points(self):
        """n + 1 points within are the lower lot of 2 * n + 2 numbers."""
        for low, high in PLACES:
            start = Fraction(-3) if low is None else low
            size = Fraction(6) if high is None else high - start
            for picks in ([3], [1, 2, 6], [1, 3, 4, 5, 6, 7]):
                points = [start + size * Fraction(k, 8) for k in picks]
                numbers = row(row_of(points, weights_of(points), 2 * len(points)))
                lower, upper = self.check(numbers, place(low, high))
                for x, w in zip(points, weights_of(points)):
                    self.assertEqual(fraction(lower.weight(ratio(x))), w)
                    self.assertEqual(fraction(most_at(numbers, place(low, high), ratio(x))), w)

    def test_thirteen_numbers(self):
        flat = [Ratio(1, k + 1) for k in range(13)]
        for where in (Place(), Place(0), Place(-1), Place(0, 1), Place(-1, 3)):
            self.check(flat, where)
        for lot in irrational_lots():
            self.check(lot.row(12), Place(-20, 20))

    def test_document(self):
        numbers = [1, Ratio(1, 2)]
        self.assertEqual(lower_lot(numbers, Place(0, 1)), lot_at([Ratio(1, 2)], [1]))
        self.assertEqual(upper_lot(numbers, Place(0, 1)), lot_at([0, 1], [Ratio(1, 2), Ratio(1, 2)]))

    def test_known(self):
        for numbers, where, lower, upper in (
            ([2], Place(), None, None), ([2], Place(3), lot_at([3], [2]), None),
            ([2], Place(3, 5), lot_at([3], [2]), lot_at([5], [2])), ([1, 2], Place(), lot_at([2], [1]), None),
            ([1, 0, 1], Place(), None, None), ([1, 0, 1, 0], Place(), lot_at([-1, 1], [Ratio(1, 2)] * 2), None),
            ([0, 0], Place(1), EMPTY, EMPTY), ([1, 3, 9], Place(), lot_at([3], [1]), lot_at([3], [1])),
        ):
            self.assertEqual((lower_lot(tuple(numbers), where), upper_lot(numbers, where)), (lower, upper))

    def test_errors_in_order(self):
        for call in (lower_lot, upper_lot):
            for value in NO_LISTS + [[], [1] * 14]:
                check_error(self, NoRow, lambda: call(value, Place()), index=-1)
            check_error(self, NoRow, lambda: call([-1, None], Place()), index=1)
            for numbers in ([-1], [0, 1], [1, 2, 3], [1, 0, 0, 0, 1]):
                check_error(self, NoLotThere, lambda: call(numbers, Place()))


class Shaped(unittest.TestCase):
    """Point [42]."""

    def test_shaped(self):
        for f, k, where, wanted in (
            (X ** 2, 0, Place(), True), (X, 0, Place(), False), (X, 0, Place(0), True), (X ** 3, 1, Place(), True),
            (X ** 3, 2, Place(), False), (X ** 3, 2, Place(0), True), (-X, 1, Place(), False),
            (X ** 4, 20, Place(), True),
            (Poly([]), 0, Place(), True), (-X ** 4, 5, Place(), True), (-X ** 4, 4, Place(0, 1), False),
            (X ** 3 - X, 1, Place(1, 2), True), (X ** 3 - X, 1, Place(0, 2), False), (Poly([-1]), 0, Place(), False),
            (X ** 20, 20, Place(-1, 0), True), (X ** 19 * X ** 2, 20, Place(-1, 0), False),
        ):
            self.assertIs(is_shaped(f=f, k=k, place=where), wanted)

    def test_against_derivatives(self):
        source = Source(9)
        for low, high in PLACES:
            for size in (1, 3, 5, 8):
                f = poly(source.fractions(size, 1))
                slope = f
                for k in range(size + 2):
                    self.assertIs(is_shaped(f, k, place(low, high)), is_never_below(slope, place(low, high)))
                    slope = slope.derivative()

    def test_refused(self):
        for k in NO_INTEGERS + [-1, 21, 10 ** 30]:
            check_error(self, NoNumber, lambda: is_shaped(X, k, Place()), word="k")


def shaped_polys(d, where):
    """Polys whose derivative number d + 1 is never below 0 on the place, of a degree below, at and above d + 1."""
    found = [Poly([]), Poly([3, -2, 1, 5][:d + 1]), X ** (d + 1) * Ratio(2, 3) - X, X ** d * -4]
    base = -where.low if where.low is not None else Ratio(0)
    found.append((X + base).power(d + 2) * X if d % 2 == 0 and where.is_line() else (X + base).power(d + 3))
    if where.is_line():
        found = found[:4] + [X ** (d + 3) + X ** (d + 1)]
    return found + [X ** (d + 1) * 5 + X ** d]


class ShapedFits(unittest.TestCase):
    """Points [43] and [44]."""

    def check(self, numbers, where, f):
        """All that is promised of one shaped Poly and of its opposite."""
        d = len(numbers) - 1
        rises = is_shaped(f, d + 1, where)
        self.assertTrue(rises or is_shaped(-f, d + 1, where))
        low, high = shaped_fits(row=numbers, place=where, f=f)
        turned = shaped_fits(numbers, where, -f)
        self.assertEqual(turned, tuple(None if end is None else -end for end in (high, low)))
        if kind(numbers, where) != ("inside",):
            only = lot_of(numbers, where).mean(f)
            self.assertEqual((low, high), (only, only))
            self.assertEqual(shaped_papers(numbers, where, f), (None, None))
            return
        if f.degree <= d:
            self.assertEqual((low, high), (mean(numbers, f), mean(numbers, f)))
        else:
            both = lower_lot(numbers, where), upper_lot(numbers, where)
            ends = [None if lot is None else lot.mean(f) for lot in both]
            self.assertEqual([low, high], ends if rises else ends[::-1])
        if f.degree <= d + 1:
            self.assertEqual((low, high), mean_fits(numbers, where, f))
        if low is not None and high is not None:
            self.assertTrue(low <= high)
        self.check_papers(numbers, where, f, low, high)
        self.check_papers(numbers, where, -f, *turned)

    def check_papers(self, numbers, where, f, low, high):
        found = shaped_papers(row=numbers, place=where, f=f)
        self.assertIs(type(found), tuple)
        for end, paper, side in ((low, found[0], 1), (high, found[1], -1)):
            if end is None:
                self.assertIsNone(paper)
            else:
                self.assertIs(type(paper), Poly)
                self.assertLess(paper.degree, len(numbers))
                self.assertTrue(is_never_below((f - paper) * side, where))
                self.assertEqual(mean(numbers, paper), end)
        self.assertEqual(shaped_papers(tuple(numbers), where, f), found)

    def test_shaped_polys(self):
        for low, high in PLACES:
            where = place(low, high)
            for numbers in rows_with_a_lot(low, high)[::4]:
                for f in shaped_polys(len(numbers) - 1, where):
                    d = len(numbers) - 1
                    if is_shaped(f, d + 1, where) or is_shaped(-f, d + 1, where):
                        self.check(numbers, where, f)
                    else:
                        check_error(self, NoShape, lambda: shaped_fits(numbers, where, f))

    def test_means_of_lots_lie_between(self):
        for points, weights, lot in known_lots()[::3]:
            for low, high in PLACES:
                where = place(low, high)
                if not lot.is_in(where):
                    continue
                for d in (0, 1, 2, 3, 6, 11, 12):
                    for f in shaped_polys(d, where)[2:]:
                        if is_shaped(f, d + 1, where):
                            least, most = shaped_fits(lot.row(d), where, f)
                            found = lot.mean(f)
                            self.assertTrue((least is None or least <= found) and (most is None or found <= most))

    def test_document(self):
        numbers, where, f = [1, Ratio(1, 2)], Place(0, 1), X ** 4
        self.assertEqual(shaped_fits(numbers, where, f), (Ratio(1, 16), Ratio(1, 2)))
        under, over = shaped_papers(numbers, where, f)
        self.assertEqual((under.degree, over.degree, is_never_below(over - f, where)), (1, 1, True))
        self.assertEqual((under, over), (Ratio(1, 2) * X - Ratio(3, 16), X))

    def test_known(self):
        self.assertEqual(shaped_fits([1], Place(), X), (None, None))
        self.assertEqual(shaped_fits([1], Place(0), X ** 3), (0, None))
        self.assertEqual(shaped_fits([1], Place(0), -X ** 3), (None, 0))
        self.assertEqual(shaped_fits([1, 2], Place(), X ** 4), (16, None))
        self.assertEqual(shaped_fits([1, 2], Place(), Poly([5, 3])), (11, 11))
        self.assertEqual(shaped_fits([1, 2, 4], Place(), X ** 5 + X ** 3), (40, 40))
        self.assertEqual(shaped_papers([1], Place(), X), (None, None))
        self.assertEqual(shaped_papers([1, 2], Place(), X + 1), (X + 1, X + 1))
        self.assertEqual(shaped_papers([1, 2, 4], Place(), X + 1), (None, None))

    def test_errors_in_order(self):
        for call in (shaped_fits, shaped_papers):
            for value in NO_LISTS + [[], [1] * 14]:
                check_error(self, NoRow, lambda: call(value, Place(), X), index=-1)
            check_error(self, NoRow, lambda: call([1, None], Place(), X ** 3), index=1)
            for numbers in ([1, 0], [-1, 0]):
                check_error(self, NoShape, lambda: call(numbers, Place(), X ** 3))
                check_error(self, NoShape, lambda: call(numbers, Place(-1, 1), -X ** 3))
            check_error(self, NoLotThere, lambda: call([-1, 0], Place(), X ** 4))
            check_error(self, NoLotThere, lambda: call([1, 0, 0, 0, 1], Place(), X))
            check_error(self, NoLotThere, lambda: call([1, 2, 3], Place(0), -X ** 3))

    def test_long_numbers(self):
        numbers = [Ratio(10 ** 399 // (k + 1) + 7 ** k, 10 ** 399 + 3 ** k) for k in range(6)]
        self.check(numbers, Place(0, 1), X ** 9 * Ratio(10 ** 399 + 1, 7))
        self.check(numbers, Place(0), X ** 12)
        self.check(numbers, Place(), X ** 8)

    def test_what_was_passed_stays(self):
        numbers = [1, Ratio(1, 2)]
        shaped_fits(numbers, Place(0, 1), X ** 4), shaped_papers(numbers, Place(0, 1), X ** 4)
        lower_lot(numbers, Place(0, 1)), upper_lot(numbers, Place(0, 1))
        self.assertEqual(numbers, [1, Ratio(1, 2)])
        self.assertEqual(type(numbers[0]), int)


class Alternating(unittest.TestCase):
    """Point [45]."""

    def test_rational_points(self):
        groups = [[], [0], [1], [HALF], [0, 1], [0, 2], [HALF, 3], [-1, HALF, Fraction(3, 2)], [0, 1, 2], [-5, 5],
                  [-5, 0, 5], [Fraction(1, 10 ** 30)], [0, Fraction(2, 10 ** 30)], list(range(8)),
                  [k + HALF for k in range(8)],
                  [k - HALF for k in range(8)], [k + HALF for k in range(7)], [k + HALF for k in range(6)], [7, 8],
                  [HALF, Fraction(1, 3)], [-1, 9], [Fraction(10 ** 20), Fraction(-10 ** 20)]]
        for one in groups:
            for other in groups:
                both = sorted([(x, 0) for x in one] + [(x, 1) for x in other])
                wanted = all(a[0] != b[0] and a[1] != b[1] for a, b in zip(both, both[1:]))
                a = lot_at([ratio(x) for x in one], [1] * len(one))
                b = lot_at([ratio(x) for x in other], [7] * len(other))
                self.assertIs(alternate(one=a, other=b), wanted, (one, other))

    def test_irrational_points(self):
        # Each list is in ascending order, with the points 0 and -+ sqrt(2), -+ sqrt(3), -+ sqrt(2) + 1.
        two, three, third = Lot(X ** 2 - 2, [1, 0]), Lot(X ** 2 - 3, [1, 0]), Lot(X ** 3 - 2 * X, [5, 1, 4])
        self.assertIs(alternate(two, three), False)
        self.assertIs(alternate(two, third), False)
        self.assertIs(alternate(three, third), False)
        self.assertIs(alternate(two, two.moved(1)), True)
        self.assertIs(alternate(two.moved(1), two), True)
        self.assertIs(alternate(two, two.moved(Ratio(282842712, 10 ** 8))), True)
        self.assertIs(alternate(two, two.moved(Ratio(282842713, 10 ** 8))), False)
        self.assertIs(alternate(two, two), False)
        self.assertIs(alternate(third, lot_at([-1, 1], [1, 1])), True)
        self.assertIs(alternate(lot_at([-1, Ratio(3, 2)], [1, 1]), third), False)
        self.assertIs(alternate(EMPTY, two), False)
        self.assertIs(alternate(EMPTY, EMPTY), True)
        self.assertIs(alternate(EMPTY, lot_at([3], [1])), True)

    def test_by_counting_roots(self):
        found = irrational_lots()
        for one in found:
            for other in found:
                product = one.poly * other.poly
                wanted = roots_in(product, None, None) == product.degree
                if wanted:
                    parts = sorted([(x, 0) for x in self.near(one)] + [(x, 1) for x in self.near(other)])
                    wanted = all(a[1] != b[1] for a, b in zip(parts, parts[1:]))
                self.assertIs(alternate(one, other), wanted)

    def near(self, lot):
        return [fraction(part[0]) for part in lot.near(width=Ratio(1, 10 ** 20))]

    def test_principal_lots(self):
        for low, high in PLACES:
            for points in lots(low, high):
                numbers = row(row_of(points, weights_of(points), 13))
                where = place(low, high)
                for size in range(1, 14):
                    if high is not None and kind(numbers[:size], where) == ("inside",):
                        lower, upper = lower_lot(numbers[:size], where), upper_lot(numbers[:size], where)
                        self.assertIs(alternate(lower, upper), True)


if __name__ == "__main__":
    unittest.main()
