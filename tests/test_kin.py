"""Point [38]: rows that are made of one row."""

import unittest
from fractions import Fraction

from momentrows.deciding import has_lot
from momentrows.errors import NoMean, NoRow, TooMany
from momentrows.kin import centred, differences, doubled, halved
from momentrows.places import Place
from momentrows.ratios import Ratio
from tests.families import PLACES, row, samples
from tests.samples import NO_LISTS, NO_NUMBERS, Source, check_error, fractions, place

ALL = (halved, doubled, centred, differences)


def some_rows():
    source = Source(21)
    found = [source.fractions(size, 2) for size in range(1, 14)]
    return found + [source.fractions(size, 400) for size in (1, 5, 13)] + [[Fraction(0)] * 5, [Fraction(1)] * 13]


class Kin(unittest.TestCase):

    def test_halved(self):
        for numbers in some_rows():
            self.assertEqual(fractions(halved(row=row(numbers))), numbers[::2])
        self.assertEqual(fractions(halved((1, 2))), [1])

    def test_doubled(self):
        for numbers in some_rows():
            if len(numbers) > 7:
                check_error(self, TooMany, lambda: doubled(row(numbers)))
                continue
            found = fractions(doubled(row=row(numbers)))
            self.assertEqual((found[::2], found[1::2]), (numbers, [0] * (len(numbers) - 1)))
        self.assertEqual(len(doubled([1] * 7)), 13)
        check_error(self, TooMany, lambda: doubled((1,) * 8))

    def test_centred(self):
        for numbers in some_rows():
            if len(numbers) == 1 or numbers[0] == 0:
                check_error(self, NoMean, lambda: centred(row(numbers)))
                continue
            found = fractions(centred(row=row(numbers)))
            self.assertEqual((len(found), found[0], found[1]), (len(numbers), numbers[0], 0))
            if len(numbers) > 2:
                self.assertEqual(found[2], numbers[2] - numbers[1] ** 2 / numbers[0])
        self.assertEqual(fractions(centred([2, 6, 20, 72])), [2, 0, 2, 0])
        for numbers in ([5], [0], [0, 1], (0, 0, 3), [Ratio(0), 7]):
            check_error(self, NoMean, lambda: centred(numbers))

    def test_differences(self):
        self.assertEqual([fractions(line) for line in differences((1, 2, 5))], [[1, 2, 5], [-1, -3], [2]])
        for numbers in some_rows():
            found = differences(row=row(numbers))
            self.assertIs(type(found), list)
            lines = [fractions(line) for line in found]
            self.assertEqual(lines[0], numbers)
            self.assertEqual([len(line) for line in lines], list(range(len(numbers), 0, -1)))
            for line, after in zip(lines, lines[1:]):
                self.assertEqual(after, [a - b for a, b in zip(line, line[1:])])

    def test_rows_are_checked_first(self):
        for call in ALL:
            for value in NO_LISTS + [[], (), [1] * 14, [None] * 14]:
                check_error(self, NoRow, lambda: call(value), index=-1)
            for item in NO_NUMBERS:
                check_error(self, NoRow, lambda: call([item]), index=0)
                check_error(self, NoRow, lambda: call([0] * 10 + [item, None]), index=10)

    def test_results_are_new(self):
        numbers = [1, Ratio(1, 2), 3]
        for call in ALL:
            again = call(tuple(numbers))
            found = call(numbers)
            if call is differences:
                found[0][0] = None
            found[0] = None
            found.append(None)
            self.assertEqual(numbers, [1, Ratio(1, 2), 3])
            self.assertEqual(type(numbers[0]), int)
            self.assertEqual(call(numbers), again)


class Facts(unittest.TestCase):

    def test_doubled_rows_on_the_line(self):
        for low, high in PLACES:
            for numbers in samples(low, high)[::2]:
                if len(numbers) <= 7:
                    numbers = row(numbers)
                    self.assertIs(has_lot(doubled(numbers), Place()), has_lot(numbers, Place(0)))
                    self.assertEqual(halved(doubled(numbers)), numbers)

    def test_halved_rows_from_zero_on(self):
        for low, high in PLACES:
            for numbers in samples(low, high)[::2]:
                if has_lot(row(numbers), Place()):
                    self.assertTrue(has_lot(halved(row(numbers)), Place(0)))

    def test_differences_on_the_segment(self):
        for numbers in samples(Fraction(0), Fraction(1)):
            if has_lot(row(numbers), place(Fraction(0), Fraction(1))):
                for line in differences(row(numbers)):
                    self.assertTrue(all(number >= 0 for number in line))


if __name__ == "__main__":
    unittest.main()
