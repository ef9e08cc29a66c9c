"""Points [32] to [37]: how great the weight of one point can be, and how much weight can lie up to it."""

import unittest
from fractions import Fraction

from momentrows.deciding import check_lot, fewest, has_lot, lot_of
from momentrows.errors import NoLotThere, NoNumber, NoPoint, NoRow, NotSegment, NoWeight
from momentrows.lots import Lot, lot_at
from momentrows.places import Place
from momentrows.polys import Poly
from momentrows.ratios import Ratio
from momentrows.roots import is_never_below
from momentrows.rows import mean
from momentrows.steps import kind
from momentrows.weights import extreme_lot, most_at, most_paper, share_fits, with_point
from tests import oracles
from tests.families import (
    HALF, PLACES, candidates, known_lots, lot_of_fractions, lots, row, samples, weights_of,
)
from tests.oracles import row_of
from tests.samples import NO_LISTS, NO_NUMBERS, check_error, fraction, place, ratio

SEGMENTS = [ends for ends in PLACES if ends[1] is not None]
X = Poly([0, 1])


def most_by_steps(numbers, low, high, x):
    """The bound of point [33] for a row that is inside, from the steps of the linear equations."""
    found = []
    all_steps = oracles.steps(numbers, low, high)
    for u in oracles.factors(low, high):
        parts = [(p, worth) for k, v, p, worth in all_steps if v == u]
        if parts and oracles.value(u, x) > 0:
            total = sum(oracles.value(p, x) ** 2 / worth for p, worth in parts)
            found.append(1 / (oracles.value(u, x) * total))
    return min(found)


def cases(every):
    """Tuples (low, high, numbers, x) of a row with a lot and a point of the place."""
    found = []
    for low, high in PLACES:
        good = [numbers for numbers in samples(low, high) if has_lot(row(numbers), place(low, high))]
        for k, numbers in enumerate(good):
            points = candidates(low, high)
            found.append((low, high, numbers, points[k % len(points)]))
            found.append((low, high, numbers, points[(k // 2) % len(points)]))
    return found[::every]


def border_cases():
    """Tuples (low, high, points, weights) of a lot that is the only one of its row of 13 numbers."""
    found = []
    for low, high in PLACES:
        for points in lots(low, high):
            if len(points) <= 6 and kind(row(row_of(points, weights_of(points), 13)), place(low, high))[0] == "border":
                found.append((low, high, points, weights_of(points)))
    return found


class Errors(unittest.TestCase):
    """Point [32]."""

    def calls(self, numbers, where, x, word="weight"):
        """The calls with these arguments that do not need a segment."""
        return [lambda: most_at(numbers, where, x), lambda: most_paper(numbers, where, x),
                lambda: with_point(numbers, where, x, None if word == "weight" else 0)]

    def segment_calls(self, numbers, where, x, width=1):
        return [lambda: extreme_lot(numbers, where, x), lambda: share_fits(numbers, where, x, width=width)]

    def test_the_row_first(self):
        for value in NO_LISTS + [[], (), [1] * 14]:
            for call in self.calls(value, Place(0), None) + self.segment_calls(value, Place(0), None, None):
                check_error(self, NoRow, call, index=-1)
        for call in self.calls([1, "2"], Place(0), None) + self.segment_calls([1, "2"], Place(0), None, None):
            check_error(self, NoRow, call, index=1)

    def test_then_the_segment(self):
        for where in (Place(), Place(0)):
            for x in (0, -5, None):
                for numbers in ([1], [-1]):
                    for call in self.segment_calls(numbers, where, x, None):
                        check_error(self, NotSegment, call)

    def test_then_x(self):
        for x in NO_NUMBERS:
            for numbers in ([1, 0], [-1]):
                for call in self.calls(numbers, Place(5), x) + self.segment_calls(numbers, Place(5, 6), x, None):
                    check_error(self, NoNumber, call, word="x")

    def test_then_weight_and_width(self):
        for value in NO_NUMBERS:
            for x in (-5, 5):
                for numbers in ([1], [-1]):
                    check_error(self, NoNumber, lambda: with_point(numbers, Place(0), x, value), word="weight")
                    check_error(self, NoNumber, lambda: share_fits(numbers, Place(0, 9), x, width=value), word="width")
        for value in (-1, Ratio(-1, 10 ** 400)):
            check_error(self, NoNumber, lambda: with_point([1], Place(0), -5, value), word="weight")
        for value in (-1, 0, Ratio(0), Ratio(-1, 2)):
            check_error(self, NoNumber, lambda: share_fits([1], Place(0, 9), -5, width=value), word="width")

    def test_then_the_point(self):
        for where in (Place(0, 1), Place(Ratio(-1, 10 ** 400), 2)):
            for x in (-1, 3, Ratio(-2, 10 ** 400)):
                for numbers in ([1], [-1], [1, 0, 0, 0, 1]):
                    for call in self.calls(numbers, where, x, "") + self.segment_calls(numbers, where, x):
                        check_error(self, NoPoint, call)

    def test_then_the_lot(self):
        for numbers in ([-1], [0, 1], [1, 5], [1, 0, 0, 1], [1, Ratio(1, 2), Ratio(1, 5)]):
            for x in (0, 1, Ratio(1, 2)):
                for call in self.calls(numbers, Place(0, 1), x, "") + self.segment_calls(numbers, Place(0, 1), x):
                    check_error(self, NoLotThere, call)
        for call in self.calls([1, 0, 0, 0, 1], Place(), 0, ""):
            check_error(self, NoLotThere, call)

    def test_width_by_name_only(self):
        with self.assertRaises(TypeError):
            share_fits([1], Place(0, 1), 0, 1)


class MostAt(unittest.TestCase):
    """Points [33] and [34]."""

    def test_inside(self):
        for low, high, numbers, x in cases(2):
            if oracles.kind(numbers, low, high) == ("inside",):
                found = fraction(most_at(row(numbers), place(low, high), ratio(x)))
                self.assertGreater(found, 0)
                self.assertEqual(found, most_by_steps(numbers, low, high, x))

    def test_what_is_left_without_the_weight(self):
        """By definition: less than this weight can be taken away, and no more."""
        for low, high, numbers, x in cases(5):
            if oracles.kind(numbers, low, high) == ("inside",):
                most = fraction(most_at(row(numbers), place(low, high), ratio(x)))
                for part, wanted in ((1 - Fraction(1, 10 ** 9), ("inside",)), (1 + Fraction(1, 10 ** 9), "out")):
                    rest = [m - most * part * x ** k for k, m in enumerate(numbers)]
                    found = oracles.kind(rest, low, high)
                    self.assertEqual(found if wanted == ("inside",) else found[0], wanted)

    def test_at_the_border(self):
        for low, high, points, weights in border_cases():
            numbers = row(row_of(points, weights, 13))
            for x in points + candidates(low, high):
                wanted = dict(zip(points, weights)).get(x, 0)
                self.assertEqual(fraction(most_at(numbers, place(low, high), ratio(x))), wanted)
                self.check_paper(numbers, place(low, high), ratio(x))

    def test_known(self):
        self.assertEqual(most_at([1, 0, 1], Place(), 1).text(), "1/2")
        for numbers, where, x, wanted in (
            ([7], Place(), 3, 7), ([7], Place(0, 1), 1, 7), ([1, 1], Place(0), 5, Fraction(1, 5)),
            ([1, 1], Place(0), 0, 1),
            ([1, 1], Place(), 5, 1), ([1, HALF], Place(0, 1), Fraction(1, 4), Fraction(2, 3)), ([0], Place(), 4, 0),
            ([1, HALF], Place(0, 1), 0, HALF), ([1, HALF], Place(0, 1), HALF, 1), ([0, 0, 0], Place(0, 1), 0, 0),
            ([1, 2, 4], Place(), 2, 1), ([1, 2, 4], Place(), 3, 0), ([2, 0, 2], Place(-1, 1), -1, 1),
        ):
            found = most_at(row=row(numbers), place=where, x=ratio(x))
            self.assertEqual(fraction(found), wanted, (numbers, x))

    def check_paper(self, numbers, where, x):
        paper = most_paper(row=numbers, place=where, x=x)
        self.assertIs(type(paper), Poly)
        self.assertLess(paper.degree, len(numbers))
        self.assertTrue(is_never_below(paper, where))
        self.assertEqual(paper(x), 1)
        self.assertEqual(mean(numbers, paper), most_at(numbers, where, x))
        self.assertEqual(most_paper(tuple(numbers), where, x), paper)

    def test_papers(self):
        for low, high, numbers, x in cases(2):
            self.check_paper(row(numbers), place(low, high), ratio(x))

    def test_papers_at_the_ends_at_the_border(self):
        for numbers, where, x in (([1, 1, 1], Place(0, 1), 1), ([1, 1, 1], Place(0, 1), 0), ([1, 0], Place(0), 0),
                                  ([1, 0], Place(0), 9), ([2, 1, 1], Place(0, 1), 1), ([2, 1, 1], Place(0, 1), 0),
                                  ([2, 1, 1], Place(0, 1), Ratio(1, 3)), ([0, 0], Place(0, 1), 1), ([0], Place(), 7)):
            self.check_paper(numbers, where, x)

    def test_a_bound_for_every_lot(self):
        for points, weights, lot in known_lots()[::2]:
            for low, high in PLACES:
                if lot.is_in(place(low, high)):
                    for d in (0, 1, 2, 5, 12):
                        for x, w in zip(points, weights):
                            most = most_at(lot.row(d), place(low, high), ratio(x))
                            self.assertLessEqual(w, fraction(most))


class WithPoint(unittest.TestCase):
    """Point [35]."""

    def check(self, numbers, where, x, weight):
        lot = with_point(row=numbers, place=where, x=x, weight=weight)
        self.assertIs(type(lot), Lot)
        self.assertIsNone(check_lot(numbers, where, lot))
        self.assertEqual(Lot(lot.poly, lot.begin), lot)
        self.assertGreaterEqual(lot.weight(x), weight)
        self.assertEqual(with_point(tuple(numbers), where, x, weight), lot)

    def test_inside(self):
        for low, high, numbers, x in cases(6):
            numbers, where, at = row(numbers), place(low, high), ratio(x)
            if kind(numbers, where) != ("inside",):
                continue
            most = most_at(numbers, where, at)
            for part in (0, Ratio(1, 3), 1 - Ratio(1, 10 ** 30)):
                self.check(numbers, where, at, most * part)
            for weight in (most, most + Ratio(1, 10 ** 400), most + 1):
                check_error(self, NoWeight, lambda: with_point(numbers, where, at, weight), most=most)

    def test_at_the_border(self):
        for low, high, points, weights in border_cases()[::2]:
            numbers, where = row(row_of(points, weights, 13)), place(low, high)
            only = lot_of(numbers, where)
            for x in points + candidates(low, high)[:4]:
                most = only.weight(ratio(x))
                for weight in (0, most, most * Ratio(1, 2)):
                    self.check(numbers, where, ratio(x), weight)
                    self.assertEqual(with_point(numbers, where, ratio(x), weight), only)
                weight = most + Ratio(1, 10 ** 400)
                check_error(self, NoWeight, lambda: with_point(numbers, where, ratio(x), weight), most=most)

    def test_known(self):
        self.check([1, 0, 1], Place(), 1, Ratio(1, 4))
        self.check([1], Place(), 5, Ratio(10 ** 400 - 1, 10 ** 400))
        check_error(self, NoWeight, lambda: with_point([1], Place(), 5, 1), most=Ratio(1))
        check_error(self, NoWeight, lambda: with_point([1, 0, 1], Place(), 1, 1), most=Ratio(1, 2))
        self.assertEqual(with_point([2, 4, 8], Place(), 2, 2), lot_at([2], [2]))
        self.assertEqual(with_point([0, 0], Place(), 2, 0), Lot(Poly([1]), []))
        numbers = [1, 0, 1, 0, 3, 0, 15, 0, 105, 0, 945, 0, 10395]
        for x in (0, 1, Ratio(-7, 3), 100):
            self.check(numbers, Place(), x, most_at(numbers, Place(), x) * Ratio(99, 100))


class Extremes(unittest.TestCase):
    """Points [36] and [37]."""

    def test_extreme_lots(self):
        for low, high, numbers, x in cases(2):
            if high is None:
                continue
            numbers, where, at = row(numbers), place(low, high), ratio(x)
            lot = extreme_lot(row=numbers, place=where, x=at)
            self.assertIs(type(lot), Lot)
            self.assertIsNone(check_lot(numbers, where, lot))
            self.assertEqual(Lot(lot.poly, lot.begin), lot)
            self.assertEqual(lot.weight(at), most_at(numbers, where, at))
            self.assertEqual(extreme_lot(tuple(numbers), where, at), lot)
            # All of the weight off x lies where the paper is 0.
            if lot.count > 0 and lot.has(at):
                rest = lot.poly // (X - at)
                self.assertEqual(most_paper(numbers, where, at) % rest, Poly([]))
            if kind(numbers, where)[0] == "border":
                self.assertEqual(lot, lot_of(numbers, where))

    def test_points_of_principal_lots(self):
        """At such a point, several factors of the place give the bound."""
        for low, high, points, weights in border_cases():
            size = sum(1 if x in (low, high) else 2 for x in points)
            if high is None or size == 0:
                continue
            lot = lot_of_fractions(points, weights)
            numbers = lot.row(size - 1)
            self.assertEqual(kind(numbers, place(low, high)), ("inside",))
            for x, w in zip(points, weights):
                self.assertEqual(extreme_lot(numbers, place(low, high), ratio(x)), lot)
                self.assertEqual(fraction(most_at(numbers, place(low, high), ratio(x))), w)
                paper = most_paper(numbers, place(low, high), ratio(x))
                self.assertEqual(mean(numbers, paper), lot.weight(ratio(x)))
                self.assertTrue(all(paper(ratio(y)) == 0 for y in points if y != x))

    def test_symmetrical_rows(self):
        flat = [Ratio(2, k + 1) if k % 2 == 0 else Ratio(0) for k in range(13)]
        for size in range(1, 14):
            for x in (0, 1, -1, Ratio(1, 3), Ratio(-1, 3)):
                lot = extreme_lot(flat[:size], Place(-1, 1), x)
                self.assertIsNone(check_lot(flat[:size], Place(-1, 1), lot))
                self.assertEqual(lot.weight(x), most_at(flat[:size], Place(-1, 1), x))
                self.assertEqual(Lot(lot.poly, lot.begin), lot)
                if x == 0:
                    self.assertEqual(lot.stretched(-1), lot)

    def test_known(self):
        half = Ratio(1, 2)
        self.assertEqual(extreme_lot([1], Place(0, 1), half), lot_at([half], [1]))
        self.assertEqual(extreme_lot([1, half], Place(0, 1), 0), lot_at([0, 1], [half, half]))
        self.assertEqual(extreme_lot([1, half], Place(0, 1), half), lot_at([half], [1]))
        self.assertEqual(extreme_lot([1, half], Place(0, 1), Ratio(1, 4)), lot_at([1, Ratio(1, 4)],
                                                                                [Ratio(1, 3), Ratio(2, 3)]))
        self.assertEqual(extreme_lot([0, 0], Place(0, 1), half), Lot(Poly([1]), []))

    def check_fits(self, numbers, where, x, width):
        """The two intervals, as fractions; it also checks them by the extreme lot."""
        found = share_fits(row=numbers, place=where, x=x, width=width)
        self.assertIs(type(found), tuple)
        self.assertEqual(len(found), 2)
        plain = []
        for part in found:
            self.assertIs(type(part), tuple)
            low, high = [fraction(end) for end in part]
            self.assertTrue(0 <= high - low <= fraction(Ratio(1) * width))
            plain.append((low, high))
        lot = extreme_lot(numbers, where, x)
        fine = Ratio(1, 10 ** 25)
        total = fraction(lot.mean(Poly([1])))
        upto = [fraction(end) for end in lot.share(None, x, width=fine)]
        above = [fraction(end) for end in lot.share(x, None, width=fine)]
        self.assertTrue(plain[1][0] <= upto[1] and upto[0] <= plain[1][1])
        self.assertTrue(plain[0][0] <= total - above[0] and total - above[1] <= plain[0][1])
        return plain

    def test_share_fits(self):
        for low, high, numbers, x in cases(3):
            if high is not None:
                for width in (Ratio(1, 10 ** 15), 2):
                    self.check_fits(row(numbers), place(low, high), ratio(x), width)

    def test_share_fits_by_rational_lots(self):
        """A lot with x as a point, whose row is so long that it is the extreme one."""
        for low, high, points, weights in border_cases():
            if high is None:
                continue
            pairs = sorted(zip(points, weights))
            size = max(1, sum(1 if x in (low, high) else 2 for x in points) - 1)
            numbers = row(row_of(points, weights, size))
            for x in points:
                least = sum((w for y, w in pairs if y < x), Fraction(0))
                most = sum((w for y, w in pairs if y <= x), Fraction(0))
                (a, b), (c, d) = self.check_fits(numbers, place(low, high), ratio(x), Ratio(1, 10 ** 9))
                if fraction(most_at(numbers, place(low, high), ratio(x))) == most - least:
                    self.assertTrue(a <= least <= b and c <= most <= d)

    def test_bounds_for_every_lot(self):
        """The fact of point [37]."""
        for points, weights, lot in known_lots()[::2]:
            for low, high in SEGMENTS:
                where = place(low, high)
                if not lot.is_in(where):
                    continue
                for d in (0, 1, 4, 7, 12):
                    for x in candidates(low, high)[::2] + points[:2]:
                        (a, b), (c, e) = [[fraction(end) for end in part] for part in
                                          share_fits(lot.row(d), where, ratio(x), width=Ratio(1, 10 ** 9))]
                        self.assertGreaterEqual(sum(w for y, w in zip(points, weights) if y < x), a)
                        self.assertLessEqual(sum(w for y, w in zip(points, weights) if y <= x), e)

    def test_known_shares(self):
        half = Ratio(1, 2)
        (a, b), (c, d) = self.check_fits([1, half], Place(0, 1), half, Ratio(1, 100))
        self.assertTrue(a <= 0 <= b and c <= 1 <= d)
        (a, b), (c, d) = self.check_fits([1, half], Place(0, 1), 1, Ratio(1, 100))
        self.assertTrue(a <= HALF <= b and c <= 1 <= d)
        (a, b), (c, d) = self.check_fits([1, half], Place(0, 1), Ratio(1, 4), Ratio(1, 100))
        self.assertTrue(a <= 0 <= b and c <= Fraction(2, 3) <= d)

    def test_long_numbers(self):
        numbers = [Ratio(10 ** 399 // (k + 1) + 7 ** k, 10 ** 399 + 3 ** k) for k in range(13)]
        x = Ratio(10 ** 399 // 3, 10 ** 399 + 1)
        where = Place(0, 1)
        lot = extreme_lot(numbers, where, x)
        self.assertIsNone(check_lot(numbers, where, lot))
        self.assertEqual(lot.weight(x), most_at(numbers, where, x))
        self.assertEqual(mean(numbers[:7], most_paper(numbers[:7], where, x)), most_at(numbers[:7], where, x))
        self.assertEqual(fewest(numbers, where), 7)
        near = most_at(numbers, where, x) - Ratio(1, 10 ** 399)
        self.assertGreaterEqual(with_point(numbers, where, x, near).weight(x), near)

    def test_what_was_passed_stays(self):
        numbers = [1, Ratio(1, 2), Ratio(1, 3)]
        for call in (lambda: most_at(numbers, Place(0, 1), 1), lambda: most_paper(numbers, Place(0, 1), 1),
                     lambda: with_point(numbers, Place(0, 1), 1, 0), lambda: extreme_lot(numbers, Place(0, 1), 1),
                     lambda: share_fits(numbers, Place(0, 1), 1, width=1)):
            call()
            self.assertEqual(numbers, [1, Ratio(1, 2), Ratio(1, 3)])
            self.assertEqual(type(numbers[0]), int)


if __name__ == "__main__":
    unittest.main()
