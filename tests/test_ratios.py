"""Points [2] to [5]: the class Ratio."""

import itertools
import math
import re
import unittest
from fractions import Fraction

from momentrows.errors import NoRatio
from momentrows.ratios import Ratio
from tests.samples import NO_INTEGERS, NO_NUMBERS, Source, check_error, fraction, ratio

SMALL = [Fraction(top, bottom) for top in range(-7, 8) for bottom in (1, 2, 3, 6)]
WHOLE = [-(10 ** 400) + 1, -12, -3, -2, -1, 0, 1, 2, 3, 12, 10 ** 399]


def long_fractions():
    source = Source(5)
    found = [source.fraction(digits) for digits in (20, 20, 100, 400, 400)]
    shared = source.below(10 ** 200) + 2
    found.append(Fraction(shared * 6, shared * shared * 4))
    found.append(Fraction(-shared, 7))
    return found + [Fraction(0), Fraction(10 ** 400 - 1), Fraction(-1, 10 ** 399)]


VALUES = SMALL[::5] + long_fractions()


class Making(unittest.TestCase):
    """Point [2]."""

    def check(self, top, bottom):
        number = Ratio(top, bottom)
        self.assertEqual(fraction(number), Fraction(top, bottom))
        self.assertGreaterEqual(number.bottom, 1)

    def test_lowest_terms(self):
        for top in range(-12, 13):
            for bottom in [*range(-12, 0), *range(1, 13)]:
                self.check(top, bottom)

    def test_long_numbers(self):
        source = Source(1)
        for digits in (30, 100, 399, 400):
            for _ in range(5):
                shared = source.below(10 ** (digits // 2)) + 1
                top = source.integer(digits - digits // 2) * shared
                bottom = (source.below(10 ** (digits // 2)) + 1) * shared
                self.check(top, bottom)
                self.check(top, -bottom)

    def test_zero_is_0_over_1(self):
        for bottom in (1, -1, 7, -12, 10 ** 400, -10 ** 399):
            number = Ratio(0, bottom)
            self.assertEqual((number.top, number.bottom), (0, 1))

    def test_an_integer_alone(self):
        for top in WHOLE:
            number = Ratio(top)
            self.assertEqual((number.top, number.bottom), (top, 1))
            self.assertIs(type(number.top), int)

    def test_arguments_by_name(self):
        number = Ratio(bottom=-4, top=6)
        self.assertEqual((number.top, number.bottom), (-3, 2))
        self.assertEqual(Ratio(top=5).bottom, 1)

    def test_wrong_top(self):
        for top in NO_INTEGERS:
            check_error(self, NoRatio, lambda: Ratio(top), word="top")
            for bottom in (1, 0, None, True, "1"):
                check_error(self, NoRatio, lambda: Ratio(top, bottom), word="top")

    def test_wrong_bottom(self):
        for bottom in NO_INTEGERS:
            check_error(self, NoRatio, lambda: Ratio(0, bottom), word="bottom")
            check_error(self, NoRatio, lambda: Ratio(3, bottom=bottom), word="bottom")

    def test_bottom_zero(self):
        for top in WHOLE:
            check_error(self, NoRatio, lambda: Ratio(top, 0), word="zero")


class Arithmetic(unittest.TestCase):
    """Point [3]."""

    def check_pair(self, a, b, left, right):
        """left and right are the operands for a and b, at least one of them a Ratio."""
        self.assertEqual(fraction(left + right), a + b)
        self.assertEqual(fraction(left - right), a - b)
        self.assertEqual(fraction(left * right), a * b)
        if b == 0:
            check_error(self, NoRatio, lambda: left // right, word="zero")
            check_error(self, NoRatio, lambda: left % right, word="zero")
        else:
            floor = left // right
            self.assertIs(type(floor), int)
            self.assertEqual(floor, a // b)
            self.assertEqual(fraction(left % right), a - b * (a // b))
        if type(left) is Ratio and b == 0:
            check_error(self, NoRatio, lambda: left.over(right), word="zero")
        elif type(left) is Ratio:
            self.assertEqual(fraction(left.over(right)), a / b)

    def test_two_ratios(self):
        for a in VALUES:
            for b in VALUES:
                self.check_pair(a, b, ratio(a), ratio(b))

    def test_an_integer_on_either_side(self):
        for a in VALUES:
            for whole in WHOLE:
                self.check_pair(a, Fraction(whole), ratio(a), whole)
                self.check_pair(Fraction(whole), a, whole, ratio(a))

    def test_floor_of_numbers_below_zero(self):
        self.assertEqual(Ratio(-7, 2) // 1, -4)
        self.assertEqual(Ratio(7, 2) // -1, -4)
        self.assertEqual(Ratio(-7, 2) // Ratio(-1, 2), 7)
        self.assertEqual(1 // Ratio(-2, 3), -2)
        self.assertEqual((Ratio(-7, 2) % 1).text(), "1/2")
        self.assertEqual((Ratio(7, 2) % -1).text(), "-1/2")

    def test_minus_and_abs(self):
        for a in VALUES:
            self.assertEqual(fraction(-ratio(a)), -a)
            self.assertEqual(fraction(abs(ratio(a))), abs(a))

    def test_assignments_with_a_sign_make_new_numbers(self):
        first = number = Ratio(3, 4)
        number += 1
        number *= Ratio(1, 2)
        number -= Ratio(1, 8)
        number **= 2
        self.assertEqual((first.text(), number.text()), ("3/4", "9/16"))

    def test_operands_stay(self):
        a = Ratio(-6, 8)
        b = Ratio(5, 3)
        for call in (lambda: a + b, lambda: a - b, lambda: a * b, lambda: -a, lambda: abs(a), lambda: a // b,
                     lambda: a % b, lambda: a.over(b), lambda: a ** -3, lambda: a.power(20), lambda: a < b,
                     lambda: a == b, lambda: a.text(), lambda: 3 - a, lambda: 3 // a):
            call()
            self.assertEqual((a.top, a.bottom, b.top, b.bottom), (-3, 4, 5, 3))

    def test_over_by_name(self):
        self.assertEqual(Ratio(1, 2).over(other=-3).text(), "-1/6")


class Powers(unittest.TestCase):
    """Point [3], powers."""

    def test_all_exponents(self):
        for a in [*SMALL, Fraction(12, 35), Fraction(-(10 ** 400) + 1, 10 ** 399)]:
            for k in range(-20, 21):
                if a == 0 and k < 0:
                    check_error(self, NoRatio, lambda: ratio(a) ** k, word="zero")
                    check_error(self, NoRatio, lambda: ratio(a).power(k), word="zero")
                else:
                    self.assertEqual(fraction(ratio(a) ** k), a ** k)
                    self.assertEqual(fraction(ratio(a).power(k)), a ** k)

    def test_exponent_zero(self):
        for number in (Ratio(0), Ratio(-3, 2), Ratio(10 ** 400)):
            self.assertEqual((number ** 0).text(), "1")
            self.assertEqual(number.power(k=0).text(), "1")

    def test_wrong_exponents(self):
        for number in (Ratio(0), Ratio(1), Ratio(-3, 2)):
            for k in [-21, 21, -(10 ** 30), 10 ** 30, *NO_INTEGERS]:
                check_error(self, NoRatio, lambda: number ** k, word="power")
                check_error(self, NoRatio, lambda: number.power(k), word="power")

    def test_zero_below_zero(self):
        for k in (-1, -2, -20):
            check_error(self, NoRatio, lambda: Ratio(0) ** k, word="zero")
            check_error(self, NoRatio, lambda: Ratio(0, 5).power(k), word="zero")


class Comparing(unittest.TestCase):
    """Points [1] and [4]."""

    def check_pair(self, a, b, left, right):
        for found, wanted in (
            (left < right, a < b), (left <= right, a <= b), (left > right, a > b),
            (left >= right, a >= b), (left == right, a == b), (left != right, a != b),
        ):
            self.assertIs(found, wanted)

    def test_two_ratios(self):
        near = [Fraction(10 ** 399, 10 ** 399 - 1), Fraction(10 ** 399 + 1, 10 ** 399), Fraction(1)]
        for values in (SMALL, VALUES, near):
            for a in values:
                for b in values:
                    self.check_pair(a, b, ratio(a), ratio(b))

    def test_with_an_integer_on_either_side(self):
        for a in VALUES + [Fraction(x) for x in WHOLE]:
            for whole in WHOLE:
                self.check_pair(a, whole, ratio(a), whole)
                self.check_pair(whole, a, whole, ratio(a))

    def test_equal_however_they_are_given(self):
        self.assertTrue(Ratio(2, -4) == Ratio(-1, 2))
        self.assertFalse(Ratio(2, -4) != Ratio(-1, 2))
        self.assertTrue(Ratio(-6, -3) == 2)
        self.assertTrue(0 == Ratio(0, -9))


def is_written(text):
    """Whether the text is that of a number, told without the program."""
    parts = re.fullmatch("(0|-?[1-9][0-9]*)(/([1-9][0-9]*))?", text)
    if parts is None:
        return False
    if parts[2] is None:
        return True
    return parts[3] != "1" and math.gcd(int(parts[1]), int(parts[3])) == 1


class Texts(unittest.TestCase):
    """Point [5]."""

    def refused(self, text):
        check_error(self, NoRatio, lambda: Ratio.read(text), word="text")

    def test_there_and_back(self):
        for top in range(-15, 16):
            for bottom in range(1, 16):
                wanted = Fraction(top, bottom)
                self.assertEqual(ratio(wanted).text(), str(wanted))
                self.assertEqual(fraction(Ratio.read(str(wanted))), wanted)

    def test_long_numbers_there_and_back(self):
        source = Source(9)
        for digits in (5, 20, 39, 40):
            for _ in range(20):
                wanted = source.fraction(digits)
                self.assertEqual(fraction(Ratio.read(text=ratio(wanted).text())), wanted)

    def test_writing_long_numbers(self):
        for top, bottom in (("9" * 4000, "1" + "0" * 3999), ("-" + "7" * 4000, "1"), ("1", "3" * 4000)):
            text = top if bottom == "1" else f"{top}/{bottom}"
            self.assertEqual(Ratio(int(top), int(bottom)).text(), text)

    def test_forty_digits(self):
        nines = "9" * 40
        tens = "1" + "0" * 39
        for text in (nines, "-" + nines, "1/" + nines, f"{nines}/{tens}", f"-{nines}/{tens}"):
            self.assertEqual(Ratio.read(text).text(), text)

    def test_more_than_forty_digits(self):
        for digits in (41, 42, 400, 4300, 4301, 5000, 20000):
            nines = "9" * digits
            tens = "1" + "0" * (digits - 1)
            for text in (nines, "-" + nines, "1/" + nines, f"{nines}/{tens}", f"-{nines}/{tens}", f"{tens}/{nines}",
                         "0" * digits, "1/" + "0" * digits, "/" * digits, "-" * digits, " " * digits):
                self.refused(text)

    def test_other_ways_to_write_a_number(self):
        for text in (
            "", "-", "/", "-/", "--1", "-0", "+1", "+0", "01", "00", "-01", "007/2", "1/1", "-3/1", "0/1", "0/2",
            "1/0", "0/0", "1/00", "1/02", "2/4", "-6/3", "10/5", "1/-2", "-1/-2", "1/+2", "/2", "1/", "-/2", "1//2",
            "1/2/3", "1/2/", "1.0", "0.5", "1e2", "1_0", "0x1", "1,5", "one", "1 /2", "1/ 2", "- 1", "1-", "1/2-",
            "1\\2", "nan", "inf", "True", "None", "\u00b2", "\u0661", "1/\u0662", "\u22121", "1\u20442", "\x00", "1\x00",
            "1\r", "\x0b1", "\u00a01", "Ratio(1)", "(1)", "1*2", "1+1", "~", "1%",
        ):
            self.refused(text)

    def test_a_strange_character_at_each_place(self):
        strange = [chr(code) for code in range(32, 127) if not chr(code).isdigit()] + ["\t", "\n"]
        for text in ("0", "5", "-5", "3/4", "-31/47", "12345678901234567890/7"):
            for at in range(len(text) + 1):
                for sign in strange:
                    longer = text[:at] + sign + text[at:]
                    if is_written(longer):
                        self.assertEqual(Ratio.read(longer).text(), longer)
                    else:
                        self.refused(longer)

    def test_all_short_texts(self):
        for length in range(6):
            for signs in itertools.product("-/012", repeat=length):
                text = "".join(signs)
                if is_written(text):
                    self.assertEqual(fraction(Ratio.read(text)), Fraction(text))
                else:
                    self.refused(text)

    def test_no_string(self):
        for text in [0, 1, Ratio(1), *NO_NUMBERS]:
            if type(text) is not str:
                self.refused(text)

    def test_examples(self):
        self.assertEqual((Ratio(6, -4) + 2).text(), "1/2")
        self.refused("2/4")
        self.assertEqual([Ratio(3, 4).text(), Ratio(-5).text(), Ratio(0).text()], ["3/4", "-5", "0"])


if __name__ == "__main__":
    unittest.main()
