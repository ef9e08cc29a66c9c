"""Point [39]: live rows."""

import unittest
from fractions import Fraction

from momentrows.deciding import has_lot, lot_of
from momentrows.errors import MeansError, NoFit, NoNumber, NoRow, NoStep, TooMany
from momentrows.further import all_fits, longest, next_fits
from momentrows.live import Means
from momentrows.lots import Lot
from momentrows.places import Place
from momentrows.polys import Poly
from momentrows.ratios import Ratio
from momentrows.steps import kind
from tests.families import PLACES, known_lots, row, samples
from tests.samples import NO_INTEGERS, NO_LISTS, NO_NUMBERS, STRANGE, Source, check_error, fraction, fractions, place

EMPTY = Lot(Poly([1]), [])
NORMAL = [1, 0, 1, 0, 3, 0, 15, 0, 105, 0, 945, 0, 10395]


class Model:
    """A live row, with all deeds done on plain lists."""

    def __init__(self, where):
        self.where = where
        self.states = [[]]
        self.at = 0

    def numbers(self):
        return self.states[self.at]

    def fits(self, numbers):
        return (Ratio(0), None) if numbers == [] else next_fits(numbers, self.where)

    def add(self, kept, added):
        """The error that has to be raised, as a tuple, or None after the deed."""
        if len(kept) + len(added) > 13:
            return TooMany, None
        now = list(kept)
        for number in added:
            low, high = self.fits(now)
            if (low is not None and number < low) or (high is not None and number > high):
                return NoFit, (low, high)
            now.append(number)
        self.states = self.states[:self.at + 1] + [now]
        self.at += 1
        return None


def raised(call):
    try:
        call()
    except NoFit as error:
        return NoFit, (error.low, error.high)
    except MeansError as error:
        return type(error), None
    return None


class Live(unittest.TestCase):

    def check_state(self, means, numbers):
        self.assertEqual(len(means), len(numbers))
        found = means.row()
        fractions(found)
        self.assertEqual(found, numbers)
        self.assertEqual([means[k] for k in range(len(means))], numbers)
        if numbers == []:
            self.assertEqual(means.fits(), (0, None))
            self.assertEqual(means.kind(), ("empty",))
            self.assertEqual(means.lot(), EMPTY)
        else:
            self.assertEqual(means.fits(), next_fits(numbers, means.place))
            self.assertEqual(means.kind(), kind(numbers, means.place))
            self.assertEqual(means.lot(), lot_of(numbers, means.place))
            self.assertTrue(has_lot(numbers, means.place))

    def refuses(self, means, error, call, **fields):
        """Checks the error, and that the call changes nothing, not even what may be taken back or done again."""
        before = means.row()
        check_error(self, error, call, **fields)
        self.assertEqual(means.row(), before)

    def test_empty(self):
        for where in (Place(), Place(2), Place(0, 1)):
            means = Means(place=where)
            self.assertEqual(means.place, where)
            self.check_state(means, [])
            fraction(means.fits()[0])
            self.assertIs(type(means.fits()), tuple)
            check_error(self, NoStep, means.undo)
            check_error(self, NoStep, means.redo)

    def test_put(self):
        means = Means(Place())
        for k, number in enumerate(NORMAL):
            self.assertIsNone(means.put(m=number))
            self.check_state(means, NORMAL[:k + 1])
        for number in (0, 1, -1):
            self.refuses(means, TooMany, lambda: means.put(number))
        for k in range(13, 0, -1):
            means.undo()
            self.check_state(means, NORMAL[:k - 1])
        for k in range(13):
            means.redo()
        self.check_state(means, NORMAL)

    def test_put_refuses(self):
        means = Means(Place(0, 1))
        self.refuses(means, NoFit, lambda: means.put(-1), low=Ratio(0), high=None)
        means.put(1)
        for value in NO_NUMBERS:
            self.refuses(means, NoNumber, lambda: means.put(value), word="m")
        self.refuses(means, NoFit, lambda: means.put(Ratio(-1, 10 ** 400)), low=Ratio(0), high=Ratio(1))
        self.refuses(means, NoFit, lambda: means.put(1 + Ratio(1, 10 ** 400)), low=Ratio(0), high=Ratio(1))
        means.put(Ratio(1, 2))
        self.refuses(means, NoFit, lambda: means.put(1), low=Ratio(1, 4), high=Ratio(1, 2))
        full = Means(Place(0, 1))
        full.put_all([1] * 13)
        for value in NO_NUMBERS:
            self.refuses(full, NoNumber, lambda: full.put(value), word="m")
        self.refuses(full, TooMany, lambda: full.put(5))
        half = Means(Place(3))
        half.put(2)
        self.refuses(half, NoFit, lambda: half.put(5), low=Ratio(6), high=None)

    def test_the_ends_fit(self):
        for low, high in PLACES:
            for side in (0, 1):
                means = Means(place(low, high))
                means.put(1)
                while len(means) < 13:
                    end = means.fits()[side]
                    if end is None:
                        end = Ratio(5) if means.fits()[0] is None else means.fits()[0] + 1
                    means.put(end)
                    self.assertTrue(has_lot(means.row(), means.place))
                if means.kind()[0] == "border":
                    self.assertEqual(means.fits(), (means.lot().row(13)[13],) * 2)

    def test_put_all(self):
        for where in (Place(), Place(-5)):
            for k in range(14):
                means = Means(where)
                self.assertIsNone(means.put_all(numbers=NORMAL[:k]))
                means.put_all(tuple(NORMAL[k:]))
                if where.is_line():
                    self.check_state(means, NORMAL)
                means.undo()
                self.assertEqual(means.row(), NORMAL[:k] if k < 13 else [])
        means = Means(Place(0))
        means.put_all([0] * 13)
        self.check_state(means, [0] * 13)

    def test_put_all_refuses(self):
        for start in ([], [2, 1], [1] * 13):
            means = Means(Place(0, 1))
            means.put_all(start)
            for value in NO_LISTS:
                self.refuses(means, NoRow, lambda: means.put_all(value), index=-1)
            for item in NO_NUMBERS:
                self.refuses(means, NoRow, lambda: means.put_all([item, None]), index=0)
                self.refuses(means, NoRow, lambda: means.put_all((5, -5, item)), index=2)
                self.refuses(means, NoRow, lambda: means.put_all([1] * 20 + [item]), index=20)
            self.refuses(means, TooMany, lambda: means.put_all([-1] * (14 - len(start))))
            self.refuses(means, TooMany, lambda: means.put_all([-1] * 60))
            means.put_all([])
            means.put_all(())
            self.check_state(means, start)
        means = Means(Place(0, 1))
        self.refuses(means, NoFit, lambda: means.put_all([1, 2, 3]), low=Ratio(0), high=Ratio(1))
        self.refuses(means, NoFit, lambda: means.put_all([-1, None][:1] + [7]), low=Ratio(0), high=None)
        self.refuses(means, NoFit, lambda: means.put_all([1, Ratio(1, 2), Ratio(1, 5), 9]), low=Ratio(1, 4),
                     high=Ratio(1, 2))
        self.refuses(means, NoFit, lambda: means.put_all([1, 1, 1, 2]), low=Ratio(1), high=Ratio(1))
        check_error(self, NoStep, means.undo)

    def test_in_place_sums(self):
        means = Means(Place())
        same = means
        means += [1, 0]
        means += (1,)
        self.assertIs(means, same)
        self.check_state(same, [1, 0, 1])
        for value, error, fields in ((None, NoRow, {"index": -1}), ([0, "1"], NoRow, {"index": 1}),
                                     (means, NoRow, {"index": -1}), ([0] * 11, TooMany, {}),
                                     ([0, 0], NoFit, {"low": Ratio(1), "high": None})):
            def add():
                nonlocal means
                means += value
            self.refuses(means, error, add, **fields)
            self.assertIs(means, same)
        means += []
        means.undo()
        self.check_state(means, [1, 0])

    def test_items(self):
        means = Means(Place())
        means.put_all(NORMAL)
        for k in NO_INTEGERS + [-1, 13, 10 ** 30, slice(0, 2)]:
            check_error(self, NoNumber, lambda: means[k], word="k")
        check_error(self, NoNumber, lambda: Means(Place())[0], word="k")
        self.assertEqual(fraction(means[12]), 10395)

    def test_setting_items(self):
        for k in range(13):
            means = Means(Place())
            means.put_all(NORMAL)
            means[k] = NORMAL[k] + 1
            self.check_state(means, NORMAL[:k] + [NORMAL[k] + 1])
            means.undo()
            self.check_state(means, NORMAL)
            means.redo()
            self.check_state(means, NORMAL[:k] + [NORMAL[k] + 1])
        means = Means(Place())
        for k in range(13):
            means[k] = NORMAL[k]
        self.check_state(means, NORMAL)

    def test_setting_items_refuses(self):
        def put(means, k, m):
            means[k] = m

        means = Means(Place(0, 1))
        means.put_all([1, Ratio(1, 2), Ratio(1, 3)])
        for k in NO_INTEGERS + [-1, 4, 13, 14]:
            self.refuses(means, NoNumber, lambda: put(means, k, None), word="k")
        for m in NO_NUMBERS:
            for k in range(4):
                self.refuses(means, NoNumber, lambda: put(means, k, m), word="m")
        self.refuses(means, NoFit, lambda: put(means, 0, -1), low=Ratio(0), high=None)
        self.refuses(means, NoFit, lambda: put(means, 1, 2), low=Ratio(0), high=Ratio(1))
        self.refuses(means, NoFit, lambda: put(means, 2, 2), low=Ratio(1, 4), high=Ratio(1, 2))
        low, high = means.fits()
        self.refuses(means, NoFit, lambda: put(means, 3, 2), low=low, high=high)
        full = Means(Place(0, 1))
        full.put_all([1] * 13)
        self.refuses(full, NoNumber, lambda: put(full, 14, 1), word="k")
        self.refuses(full, NoNumber, lambda: put(full, 13, None), word="m")
        self.refuses(full, TooMany, lambda: put(full, 13, 5))
        full[12] = 1
        full[0] = 0
        self.check_state(full, [0])

    def test_a_new_deed_clears_redo(self):
        for deed in (lambda means: means.put(0), lambda means: means.put_all([0]), lambda means: means.__iadd__([0]),
                     lambda means: means.__setitem__(0, 1)):
            means = Means(Place())
            means.put(1)
            means.put(5)
            means.undo()
            deed(means)
            check_error(self, NoStep, means.redo)
            means.undo()
            self.assertEqual(means.row(), [1])
            means.redo()

    def test_what_is_no_deed_keeps_redo(self):
        means = Means(Place(0))
        means.put_all([1, 1])
        means.put(5)
        means.undo()
        for call in (lambda: means.put(None), lambda: means.put(-1), lambda: means.put_all([2, None]),
                     lambda: means.put_all([2, -9]), lambda: means[9], lambda: means.__setitem__(1, -1),
                     lambda: means.put_all([0] * 20)):
            self.assertRaises(MeansError, call)
        means.put_all([])
        means += ()
        means.row(), means.fits(), means.kind(), means.lot(), means.branch(), len(means), means[0]
        means.redo()
        self.check_state(means, [1, 1, 5])
        means.undo()
        means.undo()
        check_error(self, NoStep, means.undo)
        self.check_state(means, [])

    def test_branches(self):
        means = Means(Place())
        means.put_all([1, 0])
        means.put(2)
        means.undo()
        other = means.branch()
        self.assertIs(type(other), Means)
        self.assertEqual((other.place, other.row()), (means.place, [1, 0]))
        check_error(self, NoStep, other.undo)
        check_error(self, NoStep, other.redo)
        other.put(7)
        self.assertEqual(means.row(), [1, 0])
        means.redo()
        means.undo()
        means.undo()
        self.assertEqual((means.row(), other.row()), ([], [1, 0, 7]))
        other[0] = 3
        means.put(4)
        self.assertEqual((means.row(), other.row()), ([4], [3]))
        other.undo(), other.undo()
        self.assertEqual(other.row(), [1, 0])

    def test_long_series(self):
        source = Source(99)
        for low, high in PLACES:
            where = place(low, high)
            means, model = Means(where), Model(where)
            for turn in range(150):
                numbers = model.numbers()
                what = source.below(8)
                low_end, high_end = model.fits(numbers)
                base = low_end if low_end is not None else Ratio(source.integer(1))
                top = high_end if high_end is not None else base + source.below(30) + 1
                pick = base + (top - base) * Ratio(source.below(9) - 1, 6)
                if what <= 2:
                    self.assertEqual(raised(lambda: means.put(pick)), model.add(numbers, [pick]))
                elif what == 3:
                    more = [pick, Ratio(source.integer(1), 2)][:source.below(3)]
                    if more:
                        self.assertEqual(raised(lambda: means.put_all(more)), model.add(numbers, more))
                elif what == 4:
                    k = source.below(len(numbers) + 1)
                    m = pick if k == len(numbers) else numbers[k] + Ratio(source.below(3) - 1, 100)
                    wanted = model.add(numbers[:k], [m])
                    self.assertEqual(raised(lambda: means.__setitem__(k, m)), wanted)
                elif what == 5 and model.at > 0:
                    means.undo()
                    model.at -= 1
                elif what == 6 and model.at + 1 < len(model.states):
                    means.redo()
                    model.at += 1
                elif what == 7:
                    other = means.branch()
                    other.put_all(all_numbers_that_fit(other))
                self.assertEqual(means.row(), model.numbers())
            self.check_state(means, model.numbers())

    def test_rows_of_lots(self):
        for points, weights, lot in known_lots()[::4]:
            for low, high in PLACES:
                if lot.is_in(place(low, high)):
                    means = Means(place(low, high))
                    for number in lot.row(12):
                        means.put(number)
                    self.check_state(means, lot.row(12))

    def test_beside_all_fits_and_longest(self):
        for low, high in PLACES:
            where = place(low, high)
            for numbers in samples(low, high)[::7]:
                numbers = row(numbers)
                many = longest(numbers, where)
                means = Means(where)
                intervals = all_fits(numbers, where)
                for k in range(many):
                    self.assertEqual(means.fits(), intervals[k])
                    means.put(numbers[k])
                if many < len(numbers):
                    least, most = intervals[many]
                    check_error(self, NoFit, lambda: means.put(numbers[many]), low=least, high=most)
                    check_error(self, NoFit, lambda: Means(where).put_all(numbers), low=least, high=most)

    def test_lists_are_copied(self):
        numbers = [1, 0, 1]
        means = Means(Place())
        means.put_all(numbers)
        numbers[0] = 9
        numbers.append(None)
        found = means.row()
        found.clear()
        self.check_state(means, [1, 0, 1])
        self.assertEqual(numbers, [9, 0, 1, None])

    def test_attributes(self):
        means = Means(Place(0, 1))
        self.assertIn("place", vars(means))
        means.put(1)
        means.undo()
        self.assertEqual(means.place, Place(0, 1))
        with self.assertRaises(TypeError):
            iter(means)
        for value in STRANGE:
            if not isinstance(value, (int, float, complex)):
                with self.assertRaises((TypeError, MeansError)):
                    means + value
        self.assertEqual(Fraction(len(means)), 0)


def all_numbers_that_fit(means):
    """Up to two more numbers for a branch."""
    if len(means) > 11:
        return []
    low, high = means.fits()
    return [low if low is not None else Ratio(0)]


if __name__ == "__main__":
    unittest.main()
