"""The errors that the program raises."""


class MeansError(ValueError):
    """The base class of all errors that the program raises."""


class NoRatio(MeansError):
    """A fraction cannot be made, computed or read; word tells why."""

    def __init__(self, word):
        self.word = word


class NoPoly(MeansError):
    """A value does not make the polynomial that is needed."""


class NoDivisor(MeansError):
    """A division of polynomials by zero."""


class NoNumber(MeansError):
    """The argument called word is not a number of the kind that is needed."""

    def __init__(self, word):
        self.word = word


class NoPlace(MeansError):
    """The ends do not make a place; part tells which is wrong."""

    def __init__(self, part):
        self.part = part


class NotSegment(MeansError):
    """The place has to be a segment and is none."""


class NoRow(MeansError):
    """A value is no row; index tells the first wrong item, and -1 that the value as a whole is wrong."""

    def __init__(self, index):
        self.index = index


class NoMean(MeansError):
    """The row is too short or too empty for the mean that is asked for."""


class NoLot(MeansError):
    """The values do not make a lot, or not one of the row in the place; part tells which is wrong."""

    def __init__(self, part):
        self.part = part


class NoLotThere(MeansError):
    """The row has no lot in the place."""


class NoBar(MeansError):
    """The bar does not show that the row has no lot; part tells what is wrong with it."""

    def __init__(self, part):
        self.part = part


class NoPoint(MeansError):
    """The point does not lie in the place."""


class NoWeight(MeansError):
    """No lot has so much weight at the point; most is the bound."""

    def __init__(self, most):
        self.most = most


class NoFit(MeansError):
    """The number does not fit behind the row; low and high are the ends of what fits."""

    def __init__(self, low, high):
        self.low = low
        self.high = high


class NoShares(MeansError):
    """The values are no shares; index tells the first wrong item, and -1 that the value as a whole is wrong."""

    def __init__(self, index):
        self.index = index


class TooMany(MeansError):
    """There would be more numbers or points than are allowed."""


class NoShape(MeansError):
    """Neither the polynomial nor its opposite has the shape that is needed."""


class NoStep(MeansError):
    """There is no deed to take back or to do again."""


class NoText(MeansError):
    """The text is not one that the writing functions write; part tells for what it was read."""

    def __init__(self, part):
        self.part = part
