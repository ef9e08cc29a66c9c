"""Points [23] to [27]: whether a row has a lot, the lot and the bar that show it, and the checks of both."""

import unittest
from fractions import Fraction

from momentrows.deciding import Bar, bar_of, check_bar, check_lot, fewest, has_lot, lot_of
from momentrows.errors import NoBar, NoLot, NoRow
from momentrows.lots import Lot, lot_at
from momentrows.places import Place
from momentrows.polys import Poly
from momentrows.ratios import Ratio
from momentrows.rows import mean, moved_row, scaled_row
from momentrows.steps import kind
from tests import oracles
from tests.families import HALF, PLACES, irrational_lots, known_lots, lot_of_fractions, lots, row, samples, weights_of
from tests.oracles import row_of
from tests.samples import check_error, coefficients, fractions, place

X = Poly([0, 1])
ONE = Poly([1])
EMPTY = Lot(Poly([1]), [])


def has_lot_by_steps(numbers, low, high):
    """The fact of point [18], from the steps of the linear equations."""
    found = oracles.kind(numbers, low, high)
    if found[0] != "border":
        return found[0] == "inside"
    p = next(oracles.product(u, p) for k, u, p, worth in oracles.steps(numbers, low, high) if worth == 0)
    return all(oracles.mean(numbers[j:], p) == 0 for j in range(len(numbers) - len(p) + 1))


def check_decision(case, numbers, where, wanted=None):
    """What the decisions promise beside each other; returns whether there is a lot."""
    found = has_lot(numbers, where)
    case.assertIs(type(found), bool)
    if wanted is not None:
        case.assertIs(found, wanted)
    lot = lot_of(numbers, where)
    bar = bar_of(numbers, where)
    few = fewest(numbers, where)
    if found:
        case.assertIsNone(bar)
        case.assertIs(type(lot), Lot)
        case.assertIs(type(few), int)
        case.assertEqual(lot.count, few)
        case.assertIsNone(check_lot(numbers, where, lot))
        case.assertEqual(lot.row(len(numbers) - 1), numbers)
        case.assertEqual(Lot(lot.poly, lot.begin), lot)
        if kind(numbers, where) == ("inside",):
            case.assertEqual(few, (len(numbers) + 1) // 2)
    else:
        case.assertIsNone(lot)
        case.assertIsNone(few)
        case.assertIs(type(bar), Bar)
        case.assertIsNone(check_bar(numbers, where, bar))
    return found


class Decisions(unittest.TestCase):
    """Points [23], [24] and [27]."""

    def test_against_linear_equations(self):
        for low, high in PLACES:
            for numbers in samples(low, high)[::2]:
                wanted = has_lot_by_steps(numbers, low, high)
                check_decision(self, row(numbers), place(low, high), wanted)

    def test_rows_of_lots(self):
        for points, weights, lot in known_lots():
            for low, high in PLACES:
                where = place(low, high)
                if lot.is_in(where):
                    for d in range(13):
                        self.assertTrue(check_decision(self, lot.row(d), where, True))

    def test_rows_of_irrational_lots(self):
        for lot in irrational_lots():
            for d in (0, 1, 2, 5, 8, 12):
                check_decision(self, lot.row(d), Place(), True)
                check_decision(self, lot.row(d), Place(-20), True)
                check_decision(self, lot.row(d), Place(-20, 20), True)
            self.assertEqual(lot_of(lot.row(12), Place()) == lot, lot.count <= 6)
            check_decision(self, lot.row(12), Place(100), False)

    def test_the_only_lot_at_the_border(self):
        for low, high in PLACES:
            for points in lots(low, high):
                weights = weights_of(points)
                numbers = row(row_of(points, weights, 13))
                if kind(numbers, place(low, high))[0] == "border":
                    self.assertEqual(lot_of(numbers, place(low, high)), lot_of_fractions(points, weights))
                    self.assertEqual(fewest(numbers, place(low, high)), len(points))

    def test_the_only_lot_inside_with_odd_d(self):
        for low, high in PLACES:
            for points in ([Fraction(1, 7)], [HALF, Fraction(3, 4)], [Fraction(k, 7) for k in range(1, 7)]):
                if high is not None:
                    points = [low + (high - low) * x for x in points]
                elif low is not None:
                    points = [low + x for x in points]
                weights = weights_of(points)
                numbers = row(row_of(points, weights, 2 * len(points)))
                self.assertEqual(kind(numbers, place(low, high)), ("inside",))
                self.assertEqual(lot_of(numbers, place(low, high)), lot_of_fractions(points, weights))

    def test_rows_that_begin_with_zero(self):
        for where in (Place(), Place(3), Place(-1, 1)):
            for size in range(1, 14):
                self.assertTrue(check_decision(self, [0] * size, where))
                self.assertEqual(lot_of([0] * size, where), EMPTY)
                for at in range(size):
                    for number in (1, -1, Ratio(1, 10 ** 400)):
                        numbers = [0] * size
                        numbers[at] = number
                        check_decision(self, numbers, where, False if at > 0 or number == -1 else None)

    def test_one_number(self):
        for where in (Place(), Place(3), Place(-1, 1)):
            for number in (1, Ratio(1, 10 ** 400), 10 ** 400 - 1):
                self.assertTrue(check_decision(self, [number], where))
                self.assertEqual(fewest([number], where), 1)
            self.assertEqual(fewest([0], where), 0)
            self.assertFalse(check_decision(self, [-number], where))

    def test_document(self):
        lot = lot_of([1, 0, 1, 0], Place())
        self.assertEqual((coefficients(lot.poly), fractions(list(lot.begin))), ([-1, 0, 1], [1, 0]))
        numbers = [1, 0, 0, 0, 1]
        self.assertIs(has_lot(numbers, Place()), False)
        self.assertIsNone(check_bar(numbers, Place(), bar_of(numbers, Place())))

    def test_known_rows(self):
        for numbers, where, wanted in (
            ([1, 0, 1], Place(), True), ([1, 0, 1], Place(0), False), ([1, 0, 0], Place(0), True),
            ([1, 1, 1, 1, 1], Place(0, 1), True), ([1, 1, 1, 1, Ratio(2)], Place(0, 1), False),
            ([1, 2, 4, 8, 16, 32, 65], Place(), False), ([1, 2, 4, 8, 16, 32, 64, 128], Place(2, 3), True),
            ([1, 2, 4, 8, 17], Place(), False), ([1, 2, 5, 8, 17], Place(), False), ([1, 2, 5, 8, 100], Place(), True),
            ([1, Ratio(1, 2), Ratio(1, 3), Ratio(1, 4)], Place(0, 1), True), ([1, 2], Place(0, 1), False),
            ([2, 0, 1, 0, Ratio(1, 2)], Place(-1, 1), True), ([2, 0, 1, 0, Ratio(1, 2), 0, Ratio(1, 4)], Place(), True),
            ([2, 0, 1, 0, Ratio(1, 2), 0, Ratio(1, 3)], Place(), False),
        ):
            check_decision(self, numbers, where, wanted)

    def test_facts_of_moved_and_scaled_rows(self):
        """The fact at the end of point [15]."""
        for low, high in PLACES:
            for numbers in samples(low, high)[::9]:
                where = place(low, high)
                wanted = has_lot(row(numbers), where)
                for by in (Ratio(5, 3), -2):
                    self.assertIs(has_lot(moved_row(row(numbers), by), where.moved(by)), wanted)
                for by in (Ratio(5, 3), Ratio(1, 100)):
                    self.assertIs(has_lot(scaled_row(row(numbers), by), where.stretched(by)), wanted)
                if wanted:
                    lot = lot_of(row(numbers), where)
                    check_lot(moved_row(row(numbers), 7), where.moved(7), lot.moved(7))
                    check_lot(scaled_row(row(numbers), 7), where.stretched(7), lot.stretched(7))

    def test_long_numbers(self):
        points = [Fraction(1, 10 ** 15 + k) for k in range(1, 4)]
        weights = [Fraction(10 ** 15 + k, 10 ** 9 + 7) for k in range(3)]
        for size in (3, 5, 6, 7, 13):
            numbers = row(row_of(points, weights, size))
            for where in (Place(), Place(0), Place(0, 1)):
                check_decision(self, numbers, where, True)
                changed = numbers[:-1] + [numbers[-1] - Ratio(1, 10 ** 399)]
                check_decision(self, changed, where, False if size in (7, 13) else None)
        numbers = [Ratio(10 ** 399 // (k + 1) + 7 ** k, 10 ** 399 + 3 ** k) for k in range(13)]
        check_decision(self, numbers, Place(0, 1), True)

    def test_the_same_answer_each_time(self):
        for numbers, where in (([1, 0, 1], Place()), ([1, 0, 1, 0, 3], Place(-9)), ([1, 2, 3], Place())):
            lot, bar = lot_of(numbers, where), bar_of(numbers, where)
            again, bar_again = lot_of(tuple(Ratio(x) for x in numbers), where), bar_of(row=tuple(numbers), place=where)
            if lot is None:
                self.assertEqual((bar.factor, bar.base, bar.other), (bar_again.factor, bar_again.base, bar_again.other))
            else:
                self.assertEqual(lot, again)
            self.assertEqual([type(x) for x in numbers], [int] * len(numbers))


class CheckLot(unittest.TestCase):
    """Point [25]."""

    def test_right_lots(self):
        lot = lot_at([0, 1, 3], [1, 2, 3])
        for size in range(1, 14):
            numbers = row(row_of([0, 1, 3], [1, 2, 3], size))
            for where in (Place(), Place(0), Place(-1), Place(0, 3), Place(-5, 3)):
                self.assertIsNone(check_lot(row=numbers, place=where, lot=lot))
                self.assertIsNone(check_lot(tuple(numbers), where, lot))
        self.assertIsNone(check_lot([0, 0], Place(), EMPTY))

    def test_a_point_outside(self):
        lot = lot_at([0, 1, 3], [1, 2, 3])
        for where in (Place(Ratio(1, 10 ** 400)), Place(1), Place(0, 2), Place(-3, -1), Place(Ratio(1, 2), 5)):
            for numbers in (lot.row(5), [1], [9, 9, 9]):
                check_error(self, NoLot, lambda: check_lot(numbers, where, lot), part="place")
        root = Lot(Poly([-2, 0, 1]), [1, 0])
        check_error(self, NoLot, lambda: check_lot([1], Place(0), root), part="place")
        check_error(self, NoLot, lambda: check_lot([1], Place(-2, Ratio(1414, 1000)), root), part="place")
        self.assertIsNone(check_lot([1], Place(-2, Ratio(1415, 1000)), root))

    def test_another_row(self):
        lot = lot_at([0, 1, 3], [1, 2, 3])
        for size in range(1, 14):
            for at in range(size):
                for change in (1, -1, Ratio(1, 10 ** 400)):
                    numbers = lot.row(size - 1)
                    numbers[at] = numbers[at] + change
                    check_error(self, NoLot, lambda: check_lot(numbers, Place(0), lot), part="row")
        for numbers in ([1], [0, 1], [0, 0, 0, Ratio(1, 9)]):
            check_error(self, NoLot, lambda: check_lot(numbers, Place(), EMPTY), part="row")

    def test_the_row_is_checked_first(self):
        check_error(self, NoRow, lambda: check_lot([], Place(5), lot_at([0], [1])), index=-1)
        check_error(self, NoRow, lambda: check_lot([1, None], Place(5), lot_at([0], [1])), index=1)


class Bars(unittest.TestCase):
    """Point [26]."""

    def refused(self, part, numbers, where, *polys):
        check_error(self, NoBar, lambda: check_bar(numbers, where, Bar(*polys)), part=part)

    def test_fields_and_product(self):
        bar = Bar(X, X - 1)
        self.assertEqual((bar.factor, bar.base, bar.other), (X, X - 1, None))
        self.assertEqual(bar.product(), X * (X - 1) * (X - 1))
        bar = Bar(factor=ONE, base=Poly([]), other=X)
        self.assertEqual((bar.factor, bar.base, bar.other, bar.product()), (ONE, Poly([]), X, Poly([])))
        self.assertLessEqual({"factor", "base", "other"}, set(vars(bar)))

    def test_right_bars(self):
        for numbers, where, polys in (
            ([-1], Place(), (ONE, ONE)), ([-1, 3], Place(0), (ONE, ONE * 7)), ([1, -1], Place(0), (X, ONE)),
            ([1, 2], Place(0, 1), (1 - X, ONE)), ([1, 0, -1], Place(), (ONE, X)), ([1, 2, 3], Place(), (ONE, X - 2)),
            ([1, 0, Ratio(-1, 10 ** 400)], Place(), (ONE, X)), ([0, 1], Place(), (ONE, ONE, X)),
            ([1, 0, 0, 0, 1], Place(), (ONE, X, X ** 3)), ([1, 0, 1], Place(0, 1), (X, ONE, X)),
            ([1, Ratio(1, 2), Ratio(3, 5)], Place(0, 1), (X * (1 - X), ONE)),
        ):
            self.assertIsNone(check_bar(numbers, where, Bar(*polys)))
            self.assertIsNone(check_bar(row=tuple(numbers), place=where, bar=Bar(*polys)))
            self.assertIs(has_lot(numbers, where), False)

    def test_wrong_factors(self):
        numbers = [-1, 0, 0, 0, 0]
        for where, factors in (
            (Place(), (X, ONE * 2, Poly([]), -ONE, X * X)), (Place(0), (X - 1, 1 - X, X * (1 - X), -X, 2 * X)),
            (Place(0, 1), (X - 1, X + 1, X * (X - 1), 2 * X)), (Place(2, 3), (X, X - 3, 2 - X, 1 - X)),
        ):
            for factor in factors:
                self.refused("factor", numbers, where, factor, ONE)
                self.refused("factor", numbers, where, factor, X ** 20, X)
                self.refused("factor", numbers, where, factor, Poly([]), Poly([]))
            for factor in where.all_factors():
                self.assertIsNone(check_bar([-5 if k == 0 else 0 for k in range(3)], where, Bar(ONE, ONE)))
                self.assertEqual(Bar(factor, ONE).product(), factor)

    def test_wrong_degrees(self):
        self.refused("degree", [-1], Place(), ONE, X)
        self.refused("degree", [-1, 0], Place(0), X, X)
        self.refused("degree", [-1, 0], Place(0, 1), X * (1 - X), ONE)
        self.refused("degree", [0, 0, 1], Place(), ONE, ONE, X ** 3)
        self.refused("degree", [0, 0, 1], Place(), ONE, X, X ** 2)
        self.refused("degree", [0, 0, 1], Place(), ONE, X ** 2, Poly([]))
        self.refused("degree", [-1] * 13, Place(), ONE, X ** 7)
        self.refused("mean", [1] * 13, Place(), ONE, X ** 6)

    def test_wrong_means(self):
        self.refused("mean", [1], Place(), ONE, ONE)
        self.refused("mean", [0], Place(), ONE, ONE)
        self.refused("mean", [1, 0, 0], Place(), ONE, X)
        self.refused("mean", [-1, 0, 0], Place(), ONE, Poly([]))
        self.refused("mean", [-1, 5, 0], Place(), ONE, ONE, X)
        self.refused("mean", [1, 5, 0], Place(), ONE, ONE, X)
        self.refused("mean", [1, 0, 0, 0, 1], Place(), ONE, ONE, X ** 4)

    def test_wrong_others(self):
        self.refused("other", [0, 0, 0], Place(), ONE, ONE, X)
        self.refused("other", [1, 0, 0, 0, 1], Place(), ONE, X, X)
        self.refused("other", [1, 0, 0, 0, 1], Place(), ONE, X, Poly([]))
        self.refused("other", [1, 0, 0, 0, 1], Place(), ONE, Poly([]), X)

    def test_the_row_is_checked_first(self):
        check_error(self, NoRow, lambda: check_bar([], Place(), Bar(X, ONE)), index=-1)
        check_error(self, NoRow, lambda: check_bar([1, "2"], Place(), Bar(X, ONE)), index=1)

    def test_no_right_bar_beside_a_lot(self):
        bars = [Bar(u, base, other) for where in (Place(), Place(0), Place(0, 1)) for u in where.all_factors()
                for base in (ONE, X, X - Ratio(1, 2), X * X - X) for other in (None, ONE, X, X ** 3)]
        for points, weights, lot in known_lots()[::5]:
            for where in (Place(), Place(0), Place(0, 1)):
                if lot.is_in(where):
                    for bar in bars:
                        with self.assertRaises(NoBar):
                            check_bar(lot.row(8), where, bar)

    def test_what_was_passed_stays(self):
        numbers = [1, 0, 0, 0, 1]
        bar = Bar(ONE, X, X ** 3)
        check_bar(numbers, Place(), bar), bar.product()
        self.assertEqual((numbers, bar.factor, bar.base, bar.other), ([1, 0, 0, 0, 1], ONE, X, X ** 3))
        self.assertEqual([type(x) for x in numbers], [int] * 5)
        self.assertEqual(mean(numbers, bar.product()), 0)


if __name__ == "__main__":
    unittest.main()
