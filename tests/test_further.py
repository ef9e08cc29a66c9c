"""Points [28] to [31]: the numbers that may follow a row, and shares."""

import unittest
from fractions import Fraction

from momentrows.deciding import has_lot, lot_of
from momentrows.errors import NoLotThere, NoMean, NoNumber, NoRow, NoShares, NotSegment
from momentrows.further import all_fits, longest, mean_fits, next_fits, row_from, shares
from momentrows.places import Place
from momentrows.polys import Poly
from momentrows.ratios import Ratio
from momentrows.rows import mean, moved_row, scaled_row
from momentrows.steps import kind
from tests.families import HALF, PLACES, irrational_lots, lots, row, samples, weights_of
from tests.oracles import row_of
from tests.samples import NO_LISTS, NO_NUMBERS, Source, check_error, fraction, fractions, place, poly, ratio

TINY = Ratio(1, 10 ** 300)
SEGMENTS = [ends for ends in PLACES if ends[1] is not None]


def interval(found):
    """The ends as fractions or None; it also checks the kinds of the values."""
    assert type(found) is tuple and len(found) == 2
    return tuple(None if end is None else fraction(end) for end in found)


def rows_with_a_lot(low, high):
    """Rows in the place, as lists of Ratios: inside and at the border."""
    return [row(numbers) for numbers in samples(low, high) if has_lot(row(numbers), place(low, high))]


class NextFits(unittest.TestCase):
    """Point [28]."""

    def test_the_ends_fit_and_nothing_beyond(self):
        for low, high in PLACES:
            where = place(low, high)
            for numbers in rows_with_a_lot(low, high)[::2]:
                least, most = next_fits(numbers, where)
                if len(numbers) == 13:
                    continue
                for end, side in ((least, -1), (most, 1)):
                    if end is None:
                        self.assertTrue(has_lot(numbers + [Ratio(10 ** 99 * side)], where))
                    else:
                        self.assertTrue(has_lot(numbers + [end], where))
                        self.assertFalse(has_lot(numbers + [end + side * TINY], where))
                        self.assertEqual(kind(numbers + [end], where)[0], "border")
                if least is not None and most is not None:
                    for share in (Ratio(1, 3), Ratio(1, 10 ** 20)):
                        self.assertTrue(has_lot(numbers + [least + (most - least) * share], where))

    def test_which_ends_there_are(self):
        for low, high in PLACES:
            where = place(low, high)
            for numbers in rows_with_a_lot(low, high):
                least, most = interval(next_fits(numbers, where))
                if kind(numbers, where) != ("inside",):
                    self.assertEqual(least, most)
                    self.assertEqual(least, fraction(lot_of(numbers, where).row(13)[len(numbers)]))
                elif high is not None:
                    self.assertLess(least, most)
                else:
                    self.assertIsNone(most)
                    self.assertIs(least is None, low is None and len(numbers) % 2 == 1)

    def test_known_intervals(self):
        for numbers, where, wanted in (
            ([1], Place(), (None, None)), ([1], Place(2), (2, None)), ([5], Place(2, 3), (10, 15)),
            ([1, 2], Place(), (4, None)), ([1, 2], Place(0), (4, None)), ([1, 2], Place(1, 3), (4, 5)),
            ([1, HALF], Place(0, 1), (Fraction(1, 4), HALF)), ([1, 0, 1], Place(), (None, None)),
            ([1, 0, 1, 0], Place(), (1, None)), ([1, 1, 2], Place(0), (4, None)),
            ([1, 0, Fraction(1, 3)], Place(-1, 1), (Fraction(-2, 9), Fraction(2, 9))),
            ([0], Place(), (0, 0)), ([0, 0], Place(3), (0, 0)), ([1, 2, 4], Place(), (8, 8)),
            ([2, 6], Place(3), (18, 18)),
            ([2, 0, 4, 0, 8], Place(), (0, 0)), ([2, 0, 4, 0, 8, 0], Place(-5, 5), (16, 16)),
        ):
            self.assertEqual(interval(next_fits(row(numbers), where)), wanted)
            self.assertEqual(interval(next_fits(row=tuple(row(numbers)), place=where)), wanted)

    def test_thirteen_numbers(self):
        for low, high in PLACES:
            for points in lots(low, high):
                numbers = row_of(points, weights_of(points), 14)
                least, most = interval(next_fits(row(numbers[:13]), place(low, high)))
                self.assertTrue(least is None or least <= numbers[13])
                self.assertTrue(most is None or numbers[13] <= most)
                if len(points) <= 5:
                    self.assertEqual((least, most), (numbers[13], numbers[13]))

    def test_irrational_lots(self):
        for lot in irrational_lots():
            for d in range(1, 13):
                wanted = fraction(lot.row(d + 1)[d + 1])
                for where in (Place(), Place(-10), Place(-10, 10)):
                    least, most = interval(next_fits(lot.row(d), where))
                    self.assertTrue((least is None or least <= wanted) and (most is None or wanted <= most))

    def test_no_lot(self):
        for low, high in PLACES:
            where = place(low, high)
            for numbers in samples(low, high)[::3]:
                if not has_lot(row(numbers), where):
                    check_error(self, NoLotThere, lambda: next_fits(row(numbers), where))
                    check_error(self, NoLotThere, lambda: mean_fits(row(numbers), where, Poly([])))


class Lengths(unittest.TestCase):
    """Point [29]."""

    def test_by_first_numbers(self):
        for low, high in PLACES:
            where = place(low, high)
            for numbers in samples(low, high)[::2]:
                numbers = row(numbers)
                found = longest(numbers, where)
                self.assertIs(type(found), int)
                fits = [k for k in range(1, len(numbers) + 1) if has_lot(numbers[:k], where)]
                self.assertEqual(fits, list(range(1, found + 1)))
                wanted = [(0, None)]
                wanted += [next_fits(numbers[:k], where) for k in range(1, len(numbers)) if k <= found]
                self.assertEqual([interval(part) for part in all_fits(numbers, where)],
                                 [(0, None)] + [interval(part) for part in wanted[1:]])

    def test_known_lengths(self):
        for numbers, where, wanted, many in (
            ([-1], Place(), 0, 1), ([-1, 2, 3], Place(0, 1), 0, 1), ([0, 1], Place(), 1, 2),
            ([0, 0, 1, 0], Place(), 2, 3),
            ([1, -1], Place(0), 1, 2), ([1, 0, 0, 0, 1], Place(), 4, 5), ([1, 0, 0, 0, 1, 5], Place(), 4, 5),
            ([1, 2, 3, 4], Place(), 2, 3), ([1] * 13, Place(0, 1), 13, 13), ([0] * 13, Place(), 13, 13),
            ([1, 1, 1, 2], Place(), 3, 4),
        ):
            self.assertEqual(longest(row=numbers, place=where), wanted)
            found = all_fits(row=tuple(numbers), place=where)
            self.assertIs(type(found), list)
            self.assertEqual(len(found), many)
            self.assertEqual(interval(found[0]), (0, None))

    def test_results_are_new(self):
        found = all_fits([1, 0], Place())
        found.clear()
        self.assertEqual([interval(part) for part in all_fits([1, 0], Place())], [(0, None), (None, None)])


class MeanFits(unittest.TestCase):
    """Point [30]."""

    def test_low_degrees(self):
        source = Source(4)
        for low, high in PLACES:
            for numbers in rows_with_a_lot(low, high)[::6]:
                for size in range(len(numbers) + 1):
                    p = poly(source.fractions(size, 2))
                    found = mean_fits(numbers, place(low, high), p)
                    self.assertEqual(interval(found), (fraction(mean(numbers, p)),) * 2)

    def test_one_degree_more(self):
        source = Source(4)
        for low, high in PLACES:
            where = place(low, high)
            for numbers in rows_with_a_lot(low, high)[::4]:
                least, most = interval(next_fits(numbers, where))
                rest = source.fractions(len(numbers), 2)
                known = fraction(mean(numbers, poly(rest)))
                for lead in (Fraction(2, 3), Fraction(-5)):
                    ends = [None if end is None else known + lead * end for end in (least, most)]
                    found = mean_fits(row=numbers, place=where, p=poly(rest + [lead]))
                    self.assertEqual(interval(found), tuple(ends if lead > 0 else ends[::-1]))

    def test_known_means(self):
        half = Ratio(1, 2)
        for p, wanted in ((Poly([0, 0, 1]), (Fraction(1, 4), HALF)), (Poly([0, 0, -1]), (-HALF, Fraction(-1, 4))),
                          (Poly([3, 2, -4]), (2, 3)), (Poly([7]), (7, 7)), (Poly([]), (0, 0))):
            self.assertEqual(interval(mean_fits([1, half], Place(0, 1), p)), wanted)
        self.assertEqual(interval(mean_fits([1, 0], Place(), Poly([0, 0, -2]))), (None, 0))
        self.assertEqual(interval(mean_fits([1], Place(), Poly([5, -2]))), (None, None))
        self.assertEqual(interval(mean_fits([1], Place(3), Poly([5, -2]))), (None, -1))

    def test_errors_in_order(self):
        check_error(self, NoRow, lambda: mean_fits([1, None], Place(), Poly([0] * 9 + [1])), index=1)
        check_error(self, NoMean, lambda: mean_fits([1, 2], Place(), Poly([0, 0, 0, 1])))
        check_error(self, NoMean, lambda: mean_fits([-1, 2], Place(), Poly([0, 0, 0, 1])))
        check_error(self, NoMean, lambda: mean_fits([1] * 13, Place(), Poly([0] * 14 + [1])))
        check_error(self, NoLotThere, lambda: mean_fits([-1, 2], Place(), Poly([0, 0, 1])))
        check_error(self, NoLotThere, lambda: mean_fits([1, 0, 0, 0, 1], Place(), Poly([1])))
        self.assertEqual(interval(mean_fits([1] * 13, Place(), Poly([0] * 13 + [1]))), (1, 1))


class Shares(unittest.TestCase):
    """Point [31]."""

    def test_by_the_intervals(self):
        for low, high in SEGMENTS:
            where = place(low, high)
            for numbers in rows_with_a_lot(low, high):
                wanted = []
                for k in range(1, len(numbers)):
                    if kind(numbers[:k], where) != ("inside",):
                        break
                    least, most = interval(next_fits(numbers[:k], where))
                    wanted.append((fraction(numbers[k]) - least) / (most - least))
                found = shares(row=tuple(numbers), place=where)
                self.assertEqual(fractions(found), wanted)
                self.assertTrue(all(0 < share < 1 for share in wanted[:-1]))
                self.assertIs(wanted != [] and wanted[-1] in (0, 1) or fraction(numbers[0]) == 0,
                              kind(numbers, where) != ("inside",))

    def test_known_shares(self):
        half = Ratio(1, 2)
        self.assertEqual(fractions(shares([1, half, Ratio(3, 8)], Place(0, 1))), [HALF, HALF])
        self.assertEqual(fractions(shares([1], Place(0, 1))), [])
        self.assertEqual(fractions(shares([0, 0, 0], Place(0, 1))), [])
        self.assertEqual(fractions(shares([2, 2, 2], Place(0, 1))), [1])
        self.assertEqual(fractions(shares([2, 0, 0], Place(0, 1))), [0])
        self.assertEqual(fractions(shares([1, half, half, half], Place(0, 1))), [HALF, 1])
        flat = [Ratio(1, k) for k in range(1, 8)]
        self.assertEqual(fractions(shares(flat, Place(0, 1))), [HALF, Fraction(1, 3), HALF, Fraction(2, 5), HALF,
                                                                Fraction(3, 7)])

    def test_shares_refuse(self):
        for value in NO_LISTS:
            check_error(self, NoRow, lambda: shares(value, Place()), index=-1)
        for where in (Place(), Place(3)):
            check_error(self, NotSegment, lambda: shares([1], where))
            check_error(self, NotSegment, lambda: shares([-1], where))
        for numbers in ([-1], [1, 2], [0, 1], [1, Ratio(1, 2), Ratio(1, 5)], [1, 1, 1, 2]):
            check_error(self, NoLotThere, lambda: shares(numbers, Place(0, 1)))

    def test_there_and_back(self):
        source = Source(6)
        for low, high in SEGMENTS:
            where = place(low, high)
            for size in (0, 1, 2, 5, 8, 12):
                for end in (None, Fraction(0), Fraction(1)):
                    parts = [Fraction(source.below(98) + 1, 99) for _ in range(size)]
                    if end is not None and size > 0:
                        parts[-1] = end
                    total = Fraction(source.below(50) + 1, 7)
                    found = row_from(ratio(total), row(parts), where)
                    self.assertEqual(fractions(found)[0], total)
                    self.assertEqual(len(found), size + 1)
                    self.assertTrue(has_lot(found, where))
                    self.assertEqual(fractions(shares(found, where)), parts)
            for numbers in rows_with_a_lot(low, high):
                known = kind(numbers, where)
                if numbers[0] > 0 and known in (("inside",), ("border", len(numbers) - 1)):
                    self.assertEqual(row_from(numbers[0], shares(numbers, where), where), numbers)

    def test_document(self):
        half = Ratio(1, 2)
        self.assertEqual(fractions(row_from(1, [half, half], Place(0, 1))), [1, HALF, Fraction(3, 8)])
        self.assertEqual(fractions(row_from(total=2, parts=(1,), place=Place(0, 3))), [2, 6])
        self.assertEqual(fractions(row_from(2, [0], Place(-1, 3))), [2, -2])
        self.assertEqual(fractions(row_from(5, [], Place(-1, 3))), [5])

    def test_moved_stretched_and_turned(self):
        source = Source(16)
        for low, high in SEGMENTS:
            where = place(low, high)
            for size in (1, 4, 9, 12):
                parts = [Ratio(source.below(20) + 1, 22) for _ in range(size)]
                numbers = row_from(3, parts, where)
                for by in (Ratio(7, 3), Ratio(1, 9)):
                    self.assertEqual(shares(moved_row(numbers, -by), where.moved(-by)), parts)
                    self.assertEqual(shares(scaled_row(numbers, by), where.stretched(by)), parts)
                turned = shares(moved_row(scaled_row(numbers, -1), where.low + where.high), where)
                self.assertEqual(turned, [parts[k] if k % 2 else 1 - parts[k] for k in range(size)])

    def test_row_from_refuses(self):
        where = Place(0, 1)
        for other in (Place(), Place(0)):
            check_error(self, NotSegment, lambda: row_from(None, None, other))
        for total in NO_NUMBERS + [0, -1, Ratio(-1, 10 ** 400)]:
            check_error(self, NoNumber, lambda: row_from(total, None, where), word="total")
        for parts in NO_LISTS + [[Ratio(1, 2)] * 13, [None] * 13, (5,) * 20]:
            check_error(self, NoShares, lambda: row_from(1, parts, where), index=-1)
        half = Ratio(1, 2)
        for item in NO_NUMBERS + [2, -1, Ratio(-1, 10 ** 400), 1 + Ratio(1, 10 ** 400)]:
            check_error(self, NoShares, lambda: row_from(1, [item], where), index=0)
            check_error(self, NoShares, lambda: row_from(1, [half] * 5 + [item, None], where), index=5)
            check_error(self, NoShares, lambda: row_from(1, [half] * 11 + [item], where), index=11)
            check_error(self, NoShares, lambda: row_from(1, (half, 1, item), where), index=2)
        for parts, index in (([0, half], 1), ([1, half], 1), ([half, 0, 0], 2), ([half, half, Ratio(1), 3], 3),
                             ([0, 1, None], 1)):
            check_error(self, NoShares, lambda: row_from(1, parts, where), index=index)

    def test_long_numbers(self):
        source = Source(12)
        parts = [ratio(Fraction(10 ** 399 // (k + 2) + source.below(10 ** 390), 10 ** 399)) for k in range(12)]
        where = place(Fraction(-1, 10 ** 399 + 7), Fraction(10 ** 399 + 3, 10 ** 399 + 1))
        self.assertEqual(shares(row_from(1, parts[:6], where), where), parts[:6])
        self.assertEqual(shares(row_from(1, parts, Place(0, 1)), Place(0, 1)), parts)

    def test_what_was_passed_stays(self):
        numbers, parts = [1, Ratio(1, 2), Ratio(3, 8)], [Ratio(1, 2), 0]
        for found in (shares(numbers, Place(0, 1)), row_from(1, parts, Place(0, 1))):
            found[0] = None
        self.assertEqual((numbers, parts), ([1, Ratio(1, 2), Ratio(3, 8)], [Ratio(1, 2), 0]))
        self.assertEqual(fractions(shares(numbers, Place(0, 1))), [HALF, HALF])
        self.assertEqual(fractions(row_from(1, parts, Place(0, 1))), [1, HALF, Fraction(1, 4)])


if __name__ == "__main__":
    unittest.main()
