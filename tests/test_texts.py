"""Point [40]: texts."""

import unittest
from fractions import Fraction

from momentrows.errors import NoRow, NoText
from momentrows.lots import Lot, lot_at
from momentrows.places import Place
from momentrows.polys import Poly
from momentrows.ratios import Ratio
from momentrows.texts import (
    lot_text, place_text, poly_text, read_lot, read_place, read_poly, read_row, row_text,
)
from tests.families import PLACES, irrational_lots, known_lots, row
from tests.samples import (
    NO_LISTS, NO_NUMBERS, STRANGE, Source, check_error, coefficients, fractions, place, poly, ratio,
)

EMPTY = Lot(Poly([1]), [])
X = Poly([0, 1])
NINES = "9" * 40
TENS = "1" + "0" * 39
# Every way of writing a number that Ratio.text never writes.
NO_RATIOS = [
    "", "-", "+1", "01", "-0", "00", "1/1", "2/4", "0/3", "1/-2", "1/0", "/2", "1/", "1.0", "1e2", "one", "--1", "1//2",
    "0x1", "1_0", "1" + NINES, "1/1" + NINES, "-1" + NINES, "\t1", "1\t", "1\n", "\n1", "1\t2", "~", ":", "None",
    "9" * 5000,
]
NO_TEXTS = [x for x in STRANGE if not isinstance(x, str)] + [[], ["1"], 1, Poly([1])]


def refused(case, read, part, texts):
    for text in texts:
        check_error(case, NoText, lambda: read(text), part=part)


def long_ratio(top_digits, bottom_digits):
    if bottom_digits == 1:
        return Ratio(10 ** top_digits - 1)
    return Ratio(-(10 ** top_digits - 1), 10 ** (bottom_digits - 1))


class Writing(unittest.TestCase):

    def test_rows(self):
        self.assertEqual(row_text([1, 0, Ratio(1, 2)]), "1 0 1/2")
        self.assertEqual(row_text(row=(Ratio(-6, 4),)), "-3/2")
        self.assertEqual(row_text([7] * 13), " ".join("7" * 13))
        for value in NO_LISTS + [[], (), [1] * 14]:
            check_error(self, NoRow, lambda: row_text(value), index=-1)
        for item in NO_NUMBERS:
            check_error(self, NoRow, lambda: row_text([1, 2, item, None]), index=2)

    def test_places(self):
        for where, text in ((Place(), "line"), (Place(0), "from 0"), (Place(Ratio(-1, 2), 1), "-1/2 to 1"),
                            (Place(-3), "from -3"), (Place(Ratio(1, 3), Ratio(7, 2)), "1/3 to 7/2")):
            self.assertEqual(place_text(place=where), text)

    def test_polys(self):
        for p, text in ((Poly([2, -3, 1]), "2 -3 1"), (Poly([]), "0"), (Poly([0]), "0"), (Poly([Ratio(1, 2)]), "1/2"),
                        (Poly([0, 0, -1]), "0 0 -1"), (Poly([1, 0, 0]), "1")):
            self.assertEqual(poly_text(p=p), text)

    def test_lots(self):
        self.assertEqual(lot_text(lot=lot_at([1, -1], [2, 3])), "-1 0 1 : 5 -1")
        self.assertEqual(lot_text(EMPTY), "1 :")
        self.assertEqual(lot_text(Lot(Poly([-2, 0, 1]), [Ratio(1, 2), 0])), "-2 0 1 : 1/2 0")
        self.assertEqual(lot_text(lot_at([Ratio(1, 3)], [4])), "-1/3 1 : 4")

    def test_long_numbers(self):
        number = Ratio(10 ** 4000 - 1, 10 ** 3999 + 7)
        text = number.text()
        self.assertEqual(len(text), 8001)
        self.assertEqual(row_text([number, 1]), f"{text} 1")
        self.assertEqual(place_text(Place(-number, number)), f"-{text} to {text}")
        self.assertEqual(place_text(Place(number)), f"from {text}")
        self.assertEqual(poly_text(Poly([0, number])), f"0 {text}")
        self.assertEqual(lot_text(lot_at([-number], [number])), f"{text} 1 : {text}")


class Reading(unittest.TestCase):

    def test_rows_there_and_back(self):
        source = Source(51)
        for size in range(1, 14):
            for digits in (1, 2, 40):
                numbers = source.fractions(size, digits)
                text = row_text(row(numbers))
                self.assertEqual(fractions(read_row(text=text)), numbers)
        self.assertEqual(fractions(read_row("0")), [0])
        self.assertEqual(fractions(read_row(" ".join(["0"] * 13))), [0] * 13)
        found = read_row("1 2")
        found.clear()
        self.assertEqual(fractions(read_row("1 2")), [1, 2])

    def test_rows_refused(self):
        refused(self, read_row, "row", NO_TEXTS)
        refused(self, read_row, "row", NO_RATIOS)
        for word in NO_RATIOS:
            refused(self, read_row, "row", [f"{word} 1", f"1 {word}", f"1 {word} 2"])
        refused(self, read_row, "row", [
            "1  2", " 1", "1 ", "1 2 ", "  ", " ", "1\n2", "1 2\n", "1\t2", "1, 2", "[1, 2]", "1 2/4",
            " ".join(["1"] * 14), " ".join(["1"] * 10000), "1" * 10 ** 6, " " * 10 ** 5,
        ])

    def test_places_there_and_back(self):
        for low, high in PLACES[:-1]:
            where = place(low, high)
            self.assertEqual(read_place(text=place_text(where)), where)
        for text in ("line", "from 0", "from -7/3", "-1/2 to 1", f"-{NINES} to {NINES}", f"from 1/{TENS}",
                     f"from {NINES}/{TENS}"):
            self.assertEqual(place_text(read_place(text)), text)

    def test_places_refused(self):
        refused(self, read_place, "place", NO_TEXTS + [Place()])
        for word in NO_RATIOS:
            refused(self, read_place, "place", [word, f"from {word}", f"{word} to 1", f"-1 to {word}"])
        refused(self, read_place, "place", [
            "Line", "line ", " line", "line\n", "lines", "from", "from ", "from0", "from  0", "from 0 ", " from 0",
            "From 0", "from 0 to 1", "to", "to 1", " to 1", "0 to", "0 to ", "0  to 1", "0 to  1", " 0 to 1", "0 to 1 ",
            "0 to 1 to 2", "1 to 0", "1 to 1", "1/2 to 1/2", "0 TO 1", "0 1", "0to1", "0 to\n1", "0 to\t1", "0\tto 1",
            "from line", "line to 1", "0 to line", "None", "0", "to to to", "0 to 1" * 1000,
        ])

    def test_polys_there_and_back(self):
        source = Source(52)
        for size in range(1, 31):
            for digits in (1, 40):
                p = poly(source.fractions(size - 1, digits) + [Fraction(3, 7)])
                self.assertEqual(read_poly(text=poly_text(p)), p)
        self.assertEqual(coefficients(read_poly("0")), [])
        self.assertEqual(coefficients(read_poly("0 0 5")), [0, 0, 5])
        self.assertEqual(read_poly(" ".join(["0"] * 29 + ["1"])), Poly([0] * 29 + [1]))

    def test_polys_refused(self):
        refused(self, read_poly, "poly", NO_TEXTS)
        for word in NO_RATIOS:
            refused(self, read_poly, "poly", [word, f"{word} 1", f"1 {word}", f"1 {word} 2"])
        refused(self, read_poly, "poly", [
            "0 0", "1 0", "1 2 0", "0 0 0", "1  2", " 1", "1 ", "1\n", " ".join(["1"] * 31), "x", "1 2 :",
            " ".join(["0"] * 30 + ["1"]),
        ])

    def test_lots_there_and_back(self):
        for lot in [lot for points, weights, lot in known_lots()] + irrational_lots() + [EMPTY]:
            text = lot_text(lot)
            if max(len(word.strip("-")) for part in text.split(" ") for word in part.split("/")) <= 40:
                self.assertEqual(read_lot(text=text), lot)
                self.assertEqual(lot_text(read_lot(text)), text)
            else:
                refused(self, read_lot, "lot", [text])
        for text in ("-1 0 1 : 5 -1", "1 :", "-2 0 1 : 1/2 0", "-1/3 1 : 4", "0 1 : 1",
                     f"{NINES}/{TENS} 1 : 1/{NINES}"):
            self.assertEqual(lot_text(read_lot(text)), text)

    def test_lots_refused(self):
        refused(self, read_lot, "lot", NO_TEXTS + [EMPTY])
        for word in NO_RATIOS:
            refused(self, read_lot, "lot", [word, f"{word} 1 : 1", f"-1 1 : {word}", f"{word} : 1", f"1 : {word}",
                                            f"-1 0 1 : 5 {word}", f"-1 0 1 : {word} -1"])
        refused(self, read_lot, "lot", [
            "", ":", " :", "1", "1:", "1 : ", "1  :", " 1 :", "1 :\n", "1 : 0", "1 : 1", "2 :", "0 :", "-1 0 1 :",
            "-1 0 1 : 5", "-1 0 1 : 5 -1 5", "-1 0 1 : 5 -1 ", "-1 0 1 :  5 -1", "-1 0 1  : 5 -1", "-1 0 1: 5 -1",
            "-1 0 1 :5 -1", "-1 0 1 : 5  -1", "-1 0 1 5 -1", "-1 0 1 : 5 : -1", "-1 0 1 : : 5 -1", "-1 0 1 : 5 -5",
            "-1 0 1 : 5 -6",
            "-1 0 1 : -5 1", "1 0 1 : 5 -1", "1 -2 1 : 5 1", "-1 0 2 : 5 -1", "-1 0 1 0 : 5 -1", "0 1 : 0", "0 1 : -1",
            "-1 0 1\n: 5 -1", "-1 0 1 :\t5 -1", "0 " * 30 + "1 : 1", "0 1 : " + "1 " * 5000 + "1", ": " * 10 ** 5,
        ])

    def test_longest_numbers(self):
        for top, bottom in ((40, 1), (40, 40), (1, 40)):
            number = long_ratio(top, bottom)
            text = number.text()
            self.assertEqual(read_row(text), [number])
            self.assertEqual(read_place(f"from {text}"), Place(number))
            self.assertEqual(read_poly(f"0 {text}"), Poly([0, number]))
            self.assertEqual(read_lot(f"{text} 1 : 3"), lot_at([-number], [3]))
        for top, bottom in ((41, 1), (41, 40), (40, 41), (1, 41)):
            text = long_ratio(top, bottom).text()
            refused(self, read_row, "row", [text, f"1 {text}"])
            refused(self, read_place, "place", [f"from {text}", f"{text} to {NINES}", f"-{NINES} to {text}"])
            refused(self, read_poly, "poly", [text, f"{text} 1"])
            refused(self, read_lot, "lot", [f"{text} 1 : 3", f"0 1 : {text.strip('-')}"])

    def test_a_strange_character_at_each_place(self):
        for read, part, right in ((read_row, "row", "12 3/4"), (read_place, "place", "-1 to 2/3"),
                                  (read_place, "place", "line"), (read_poly, "poly", "12 3/4"),
                                  (read_lot, "lot", "-1 1 : 5")):
            read(right)
            for at in range(len(right) + 1):
                for strange in " \t\n~!,;:.+x'\"\\":
                    text = right[:at] + strange + right[at:]
                    if (read, text) in ((read_row, "1 2 3/4"), (read_poly, "1 2 3/4")):
                        continue
                    refused(self, read, part, [text])

    def test_ratios_are_kept(self):
        self.assertEqual([type(x) for x in read_row("1 2/3")], [Ratio, Ratio])
        self.assertEqual(read_poly("0 1"), X)
        self.assertEqual(read_row("1 2/3"), [1, ratio(Fraction(2, 3))])


if __name__ == "__main__":
    unittest.main()
