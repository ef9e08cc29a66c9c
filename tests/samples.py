"""Values and checks that the tests share. All values come from a fixed rule, so every run is the same."""

from fractions import Fraction

from momentrows import errors
from momentrows.errors import MeansError
from momentrows.places import Place
from momentrows.polys import Poly
from momentrows.ratios import Ratio

ERROR_FIELDS = {
    "NoRatio": ("word",),
    "NoPoly": (),
    "NoDivisor": (),
    "NoNumber": ("word",),
    "NoPlace": ("part",),
    "NotSegment": (),
    "NoRow": ("index",),
    "NoMean": (),
    "NoLot": ("part",),
    "NoLotThere": (),
    "NoBar": ("part",),
    "NoPoint": (),
    "NoWeight": ("most",),
    "NoFit": ("low", "high"),
    "NoShares": ("index",),
    "TooMany": (),
    "NoShape": (),
    "NoStep": (),
    "NoText": ("part",),
}

# Values of every kind that is no integer; the Ratio, the list and the tuple are right in some places.
STRANGE = [
    True, False, None, "", "1", "1/2", b"", b"1", 1.0, 0.5, float("nan"), 1j, {}, {1: 2}, set(), {1}, frozenset([1]),
    range(3), bytearray(b"1"), object(), int, len, MeansError(), errors.NoRatio("top"),
]
NO_INTEGERS = STRANGE + [[], [1], (), (1,), Ratio(1), Ratio(1, 2), Poly([1])]
NO_NUMBERS = STRANGE + [[], [1], (), (1,), Poly([]), Poly([1])]
NO_LISTS = STRANGE + [0, 1, Ratio(1), Poly([1])]


class Source:
    """Integers that look mixed but are the same in every run."""

    def __init__(self, seed):
        self.state = seed

    def below(self, limit):
        """An integer from 0 to limit - 1."""
        found = 0
        size = 1
        while size < limit * 65536:
            self.state = (self.state * 6364136223846793005 + 1442695040888963407) % 2 ** 64
            found = found * 65536 + (self.state >> 40) % 65536
            size *= 65536
        return found % limit

    def integer(self, digits):
        """An integer of at most so many digits, of either sign."""
        return self.below(2 * 10 ** digits - 1) - (10 ** digits - 1)

    def fraction(self, digits):
        return Fraction(self.integer(digits), self.below(10 ** digits - 1) + 1)

    def fractions(self, many, digits):
        return [self.fraction(digits) for _ in range(many)]


def ratio(fraction):
    """The Ratio with the value of a fraction or an integer of Python."""
    return Ratio(Fraction(fraction).numerator, Fraction(fraction).denominator)


def fraction(number):
    """The other way; it also checks that the Ratio is kept as the document says."""
    assert type(number) is Ratio, number
    assert type(number.top) is int and type(number.bottom) is int
    found = Fraction(number.top, number.bottom)
    assert (number.top, number.bottom) == (found.numerator, found.denominator), "not in lowest terms"
    return found


def poly(fractions):
    return Poly([ratio(x) for x in fractions])


def place(low, high):
    """The Place with these fractions, integers or Nones as its ends."""
    return Place(None if low is None else ratio(low), None if high is None else ratio(high))


def fractions(numbers):
    """The numbers of a returned list as fractions of Python."""
    assert type(numbers) is list
    return [fraction(number) for number in numbers]


def coefficients(p):
    """The coefficients as fractions of Python; it also checks the fields of the Poly."""
    assert type(p) is Poly, p
    assert type(p.coefficients) is tuple
    found = [fraction(x) for x in p.coefficients]
    assert not found or found[-1] != 0, "a zero at the end"
    assert type(p.degree) is int and p.degree == len(found) - 1
    assert fraction(p.lead) == (found[-1] if found else 0)
    return found


def check_error(case, kind, call, **fields):
    """Checks that the call raises just this error with just these fields."""
    try:
        call()
    except MeansError as error:
        case.assertIs(type(error), kind)
        case.assertIsInstance(error, ValueError)
        for name in fields:
            case.assertEqual(getattr(error, name), fields[name])
            case.assertIs(type(getattr(error, name)), type(fields[name]))
        for name in ERROR_FIELDS:
            case.assertEqual(isinstance(error, getattr(errors, name)), name == kind.__name__)
    else:
        case.fail(f"{kind.__name__} was not raised")
