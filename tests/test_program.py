"""The whole program: what points [1] and [13] promise of every function, and results of one module given to another."""

import unittest
from fractions import Fraction

from momentrows.deciding import Bar, bar_of, check_bar, check_lot, fewest, has_lot, lot_of
from momentrows.errors import NoFit, NoRow
from momentrows.further import all_fits, longest, mean_fits, next_fits, row_from, shares
from momentrows.kin import centred, differences, doubled, halved
from momentrows.live import Means
from momentrows.lots import Lot, lot_at
from momentrows.places import Place
from momentrows.polys import Poly
from momentrows.principal import alternate, lower_lot, shaped_fits, shaped_papers, upper_lot
from momentrows.ratios import Ratio
from momentrows.rows import mean, mixed_row, moved_row, product_row, scaled_row, shifted_row, sum_row
from momentrows.steps import kind, steps
from momentrows.texts import (
    lot_text, place_text, poly_text, read_lot, read_place, read_poly, read_row, row_text,
)
from momentrows.weights import extreme_lot, most_at, most_paper, share_fits, with_point
from tests.families import PLACES, irrational_lots, known_lots, row, samples
from tests.samples import NO_LISTS, NO_NUMBERS, STRANGE, check_error, fractions, place

X = Poly([0, 1])
HALF = Ratio(1, 2)
UNIT = Place(0, 1)
FLAT = [Ratio(1, k + 1) for k in range(13)]
WIDTH = Ratio(1, 10 ** 10)

# Every function that takes a row, with other arguments that are right for each row that has a lot in the place from
# 0 to 1 and has 2 to 7 numbers.
ROW_CALLS = {
    "mean": lambda row: mean(row, X),
    "moved_row": lambda row: moved_row(row, HALF),
    "scaled_row": lambda row: scaled_row(row, 3),
    "shifted_row": lambda row: shifted_row(row, X),
    "mixed_row one": lambda row: mixed_row(row, FLAT, share=HALF),
    "mixed_row other": lambda row: mixed_row(FLAT, row, share=HALF),
    "sum_row one": lambda row: sum_row(row, FLAT),
    "sum_row other": lambda row: sum_row(FLAT, row),
    "product_row one": lambda row: product_row(row, FLAT),
    "product_row other": lambda row: product_row(FLAT, row),
    "steps": lambda row: steps(row, UNIT),
    "kind": lambda row: kind(row, UNIT),
    "has_lot": lambda row: has_lot(row, UNIT),
    "lot_of": lambda row: lot_of(row, UNIT),
    "fewest": lambda row: fewest(row, UNIT),
    "bar_of": lambda row: bar_of(row, UNIT),
    "bar_of elsewhere": lambda row: bar_of(row, Place(5)),
    "next_fits": lambda row: next_fits(row, UNIT),
    "longest": lambda row: longest(row, UNIT),
    "all_fits": lambda row: all_fits(row, UNIT),
    "mean_fits": lambda row: mean_fits(row, UNIT, X * X),
    "shares": lambda row: shares(row, UNIT),
    "most_at": lambda row: most_at(row, UNIT, HALF),
    "most_paper": lambda row: most_paper(row, UNIT, HALF),
    "with_point": lambda row: with_point(row, UNIT, HALF, 0),
    "extreme_lot": lambda row: extreme_lot(row, UNIT, HALF),
    "share_fits": lambda row: share_fits(row, UNIT, HALF, width=WIDTH),
    "lower_lot": lambda row: lower_lot(row, UNIT),
    "upper_lot": lambda row: upper_lot(row, UNIT),
    "shaped_fits": lambda row: shaped_fits(row, UNIT, X ** 9),
    "shaped_papers": lambda row: shaped_papers(row, UNIT, X ** 9),
    "halved": halved,
    "doubled": doubled,
    "centred": centred,
    "differences": differences,
    "row_text": row_text,
}
# The same for functions that raise an error for most rows.
CHECKS = {
    "check_lot": lambda row: check_lot(row, UNIT, lot_at([0], [1])),
    "check_bar": lambda row: check_bar(row, UNIT, Bar(X + 1, X)),
}


def plain(value):
    """The value with tuples and fractions alone, so that values can be compared and kept."""
    if isinstance(value, Ratio):
        return Fraction(value.top, value.bottom)
    if isinstance(value, Poly):
        return "Poly", plain(value.coefficients)
    if isinstance(value, Lot):
        return "Lot", plain(value.poly), plain(value.begin)
    if isinstance(value, Bar):
        return "Bar", plain(value.factor), plain(value.base), plain(value.other)
    if isinstance(value, list):
        return ("list", *[plain(item) for item in value])
    if isinstance(value, tuple):
        return ("tuple", *[plain(item) for item in value])
    return type(value).__name__, value


def good_rows():
    """Rows with a lot in the place from 0 to 1: inside and at the border, of 2 to 7 numbers."""
    found = [FLAT[:size] for size in range(2, 8)]
    found += [[1, 1], [1, 0, 0], [Ratio(2), 1, HALF, Ratio(1, 4)], [3, 1, 1, 1, 1, 1, 1], [1, HALF, HALF]]
    return found


def spoil(value):
    """Changes every list in the value."""
    if isinstance(value, (list, tuple)):
        for item in value:
            spoil(item)
    if isinstance(value, list):
        value.append(None)
        value[0] = "changed"


class EveryFunction(unittest.TestCase):
    """Points [1] and [13]."""

    def test_all_row_functions_refuse_what_is_no_row(self):
        for name, call in [*ROW_CALLS.items(), *CHECKS.items()]:
            for value in [*NO_LISTS, [], (), [1] * 14, (1,) * 14, [None] * 20]:
                with self.subTest(name):
                    check_error(self, NoRow, lambda: call(value), index=-1)
            for item in NO_NUMBERS:
                check_error(self, NoRow, lambda: call([item]), index=0)
                check_error(self, NoRow, lambda: call((1, HALF, item, None)), index=2)
            for index in range(13):
                check_error(self, NoRow, lambda: call([1] * index + ["1"] * (13 - index)), index=index)

    def test_lists_and_tuples_and_both_kinds_of_numbers(self):
        for numbers in good_rows():
            exact = [Ratio(1) * number for number in numbers]
            for name, call in ROW_CALLS.items():
                with self.subTest(name):
                    found = plain(call(numbers))
                    self.assertEqual(plain(call(tuple(numbers))), found)
                    self.assertEqual(plain(call(exact)), found)
                    self.assertEqual(plain(call(tuple(exact))), found)

    def test_results_are_new_and_arguments_stay(self):
        for numbers in good_rows():
            before = plain(list(numbers))
            for name, call in ROW_CALLS.items():
                with self.subTest(name):
                    first = call(numbers)
                    found = plain(first)
                    spoil(first)
                    self.assertEqual(plain(list(numbers)), before)
                    self.assertEqual(plain(call(numbers)), found)
        self.assertEqual(plain(FLAT), plain([Ratio(1, k + 1) for k in range(13)]))

    def test_numbers_are_ratios(self):
        """No number that is returned is an integer, but for those that the document calls so."""
        integers = {"fewest", "longest", "steps", "kind", "kind elsewhere"}
        for numbers in good_rows():
            for name, call in ROW_CALLS.items():
                if name not in integers:
                    self.assertNotIn("int", str(plain(call(numbers))), name)

    def test_long_numbers(self):
        long = [Ratio(10 ** 399 // (k + 1) + 7 ** k, 10 ** 399 + 3 ** k) for k in range(7)]
        for name, call in ROW_CALLS.items():
            if name != "row_text":
                with self.subTest(name):
                    self.assertEqual(plain(call(long)), plain(call(tuple(long))))


class Together(unittest.TestCase):
    """Results of one module given to another."""

    def test_lots_written_and_read(self):
        for low, high in PLACES[:-1]:
            where = place(low, high)
            self.assertEqual(read_place(place_text(where)), where)
            for numbers in samples(low, high)[::5]:
                numbers = row(numbers)
                lot = lot_of(numbers, where)
                if lot is None:
                    bar = bar_of(numbers, where)
                    self.assertIsNone(check_bar(numbers, where, bar))
                    continue
                text = lot_text(lot)
                if all(len(part) <= 40 for part in text.replace("/", " ").split(" ")):
                    again = read_lot(text)
                    self.assertEqual(again, lot)
                    self.assertEqual(read_poly(poly_text(lot.poly)), again.poly)
                    self.assertIsNone(check_lot(read_row(row_text(numbers)), read_place(place_text(where)), again))

    def test_rows_and_lots_changed_alike(self):
        for points, weights, lot in known_lots()[::2]:
            numbers = lot.row(12)
            for by in (Ratio(3), Ratio(-2, 7)):
                self.assertEqual(lot.moved(by).row(12), moved_row(numbers, by))
                self.assertEqual(lot.stretched(by).row(12), scaled_row(numbers, by))
            self.assertEqual((lot * HALF).row(12), [number * HALF for number in numbers])
            for where in (Place(), Place(-5), Place(-5, 100)):
                self.assertIs(lot.is_in(where), lot.moved(3).is_in(where.moved(3)))
                self.assertIs(lot.is_in(where), lot.stretched(HALF).is_in(where.stretched(HALF)))

    def test_mixed_added_and_multiplied_rows(self):
        source = [lot_at([0, 1], [1, 2]), lot_at([2], [5]), lot_at([-1, 1, 3], [1, 1, HALF]), lot_at([0], [1])]
        for one in source:
            for other in source:
                share = Ratio(1, 3)
                mixed = mixed_row(one.row(12), other.row(12), share=share)
                self.assertIsNone(check_lot(mixed, Place(), one * (1 - share) + other * share))
                both = [(a, b) for a in self.points(one) for b in self.points(other)]
                for make, join in ((sum_row, lambda x, y: x + y), (product_row, lambda x, y: x * y)):
                    found = Lot(Poly([1]), [])
                    for a, b in both:
                        found = found + lot_at([join(a, b)], [one.weight(a) * other.weight(b)])
                    numbers = make(one.row(12), other.row(12))
                    self.assertIsNone(check_lot(numbers, Place(), found))
                    self.assertTrue(has_lot(numbers, Place()))

    def points(self, lot):
        return [Ratio(k) for k in range(-3, 4) if lot.has(k)]

    def test_principal_lots_beside_weights_and_next_numbers(self):
        for low, high in PLACES:
            where = place(low, high)
            for numbers in samples(low, high)[::6]:
                numbers = row(numbers)
                if not has_lot(numbers, where):
                    continue
                ends = next_fits(numbers, where)
                for end, lot in zip(ends, (lower_lot(numbers, where), upper_lot(numbers, where))):
                    self.assertIs(lot is None, end is None)
                    if lot is not None:
                        self.assertEqual(lot.row(len(numbers))[-1], end)
                        for x in (where.low, where.high):
                            if x is not None and lot.has(x):
                                self.assertEqual(lot.weight(x), most_at(numbers, where, x))
                                if where.is_segment():
                                    self.assertEqual(extreme_lot(numbers, where, x), lot)
                if kind(numbers, where) == ("inside",) and where.is_segment():
                    self.assertTrue(alternate(lower_lot(numbers, where), upper_lot(numbers, where)))
                    parts = shares(numbers, where)
                    self.assertEqual(row_from(numbers[0], parts, where), numbers)

    def test_live_rows_beside_the_functions(self):
        for low, high in PLACES:
            where = place(low, high)
            for numbers in samples(low, high)[::11]:
                numbers = row(numbers)
                means = Means(where)
                many = longest(numbers, where)
                if many < len(numbers):
                    with self.assertRaises(NoFit):
                        means += numbers
                means.put_all(numbers[:many])
                if many > 0:
                    self.assertEqual(means.fits(), next_fits(numbers[:many], where))
                    self.assertEqual(means.kind(), kind(numbers[:many], where))
                    self.assertEqual(means.lot(), lot_of(numbers[:many], where))
                    self.assertEqual(all_fits(numbers, where)[:many], [self.fits_behind(means, k) for k in range(many)])

    def fits_behind(self, means, k):
        other = Means(means.place)
        other.put_all(means.row()[:k])
        return other.fits()

    def test_doubled_rows_beside_halved_rows(self):
        for points, weights, lot in known_lots()[::3]:
            if lot.is_in(Place(0)):
                numbers = lot.row(6)
                self.assertTrue(has_lot(doubled(numbers), Place()))
                self.assertEqual(halved(doubled(numbers)), numbers)
            if lot.count > 0:
                self.assertEqual(centred(lot.row(5))[1], 0)
            self.assertTrue(has_lot(halved(lot.row(12)), Place(0)))
        for lot in irrational_lots():
            self.assertTrue(has_lot(halved(lot.row(12)), Place(0)))

    def test_long_results_are_good_arguments(self):
        """Numbers that the program returned may be longer than those that are passed to it otherwise."""
        long = [Ratio(10 ** 399 // (k + 1) + 7 ** k, 10 ** 399 + 3 ** k) for k in range(5)]
        for where in (Place(), Place(0), UNIT):
            numbers = list(long)
            for turn in range(2):
                low, high = next_fits(numbers, where)
                step = low + 1 if high is None and low is not None else HALF if low is None else (low + high) * HALF
                numbers.append(step)
                lot = lot_of(numbers, where)
                self.assertIsNone(check_lot(numbers, where, lot))
                self.assertEqual(Lot(lot.poly, lot.begin), lot)
                most = most_at(numbers, where, HALF)
                found = with_point(numbers, where, HALF, most * Ratio(9, 10))
                self.assertGreaterEqual(found.weight(HALF), most * Ratio(9, 10))
                self.assertEqual(mean(numbers, most_paper(numbers, where, HALF)), most)
            low = lower_lot(numbers, where)
            if low is not None:
                self.assertEqual(lot_of(numbers + [next_fits(numbers, where)[0]], where), low)

    def test_the_same_answer_each_time(self):
        for low, high in PLACES[:-1]:
            where, again = place(low, high), place(low, high)
            for numbers in samples(low, high)[::13]:
                numbers = row(numbers)
                for call in (lot_of, bar_of, steps, kind, longest, all_fits):
                    self.assertEqual(plain(call(numbers, where)), plain(call(tuple(numbers), again)))

    def test_places_stay(self):
        where = Place(0, 1)
        for name, call in ROW_CALLS.items():
            call(FLAT[:4])
        self.assertEqual((UNIT, fractions([UNIT.low, UNIT.high])), (where, [0, 1]))
        self.assertGreater(len(STRANGE), 10)


if __name__ == "__main__":
    unittest.main()
