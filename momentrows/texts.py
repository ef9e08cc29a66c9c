"""Rows, places, Polys and lots as texts."""

from momentrows.errors import NoLot, NoPlace, NoRatio, NoText
from momentrows.lots import Lot
from momentrows.places import Place
from momentrows.polys import Poly
from momentrows.ratios import Ratio
from momentrows.rows import MOST_NUMBERS, row_numbers

# The document's limit for the coefficients of a text of a Poly.
MOST_COEFFICIENTS = 30


def row_text(row):
    """The numbers with one space between neighbours."""
    return _joined(row_numbers(row))


def place_text(place):
    """line, from LOW or LOW to HIGH."""
    if place.is_line():
        return "line"
    if place.is_segment():
        return f"{place.low.text()} to {place.high.text()}"
    return f"from {place.low.text()}"


def poly_text(p):
    """The coefficients, the constant first, with one space between neighbours."""
    if p.degree < 0:
        return "0"
    return _joined(p.coefficients)


def lot_text(lot):
    """The text of the Poly, a colon, and the first numbers of the row."""
    if lot.count == 0:
        return f"{poly_text(lot.poly)} :"
    return f"{poly_text(lot.poly)} : {_joined(lot.begin)}"


def read_row(text):
    """The list of Ratios with this text."""
    return _numbers(text, MOST_NUMBERS, "row")


def read_place(text):
    """The Place with this text."""
    if not isinstance(text, str):
        raise NoText("place")
    if text == "line":
        return Place()
    if text.startswith("from "):
        return Place(_number(text.removeprefix("from "), "place"))
    low, word, high = text.partition(" to ")
    try:
        return Place(_number(low, "place"), _number(high, "place"))
    except NoPlace:
        raise NoText("place") from None


def read_poly(text):
    """The Poly with this text."""
    return _poly(text, "poly")


def read_lot(text):
    """The Lot with this text."""
    if not isinstance(text, str):
        raise NoText("lot")
    left, bar, right = text.partition(" :")
    if bar == "" or (right != "" and not right.startswith(" ")):
        raise NoText("lot")
    poly = _poly(left, "lot")
    begin = [] if right == "" else _numbers(right.removeprefix(" "), MOST_NUMBERS, "lot")
    try:
        return Lot(poly, begin)
    except NoLot:
        raise NoText("lot") from None


def _joined(numbers):
    return " ".join([number.text() for number in numbers])


def _number(text, part):
    """The Ratio with this text, which stands in a text of this part."""
    try:
        return Ratio.read(text)
    except NoRatio:
        raise NoText(part) from None


def _numbers(text, many, part):
    """At most so many Ratios with one space between neighbours."""
    if not isinstance(text, str):
        raise NoText(part)
    words = text.split(" ")
    if len(words) > many:
        raise NoText(part)
    return [_number(word, part) for word in words]


def _poly(text, part):
    """The Poly with this text, which stands in a text of this part."""
    numbers = _numbers(text, MOST_COEFFICIENTS, part)
    # Only the zero polynomial is written with a 0 at the end.
    if len(numbers) > 1 and numbers[-1] == 0:
        raise NoText(part)
    return Poly(numbers)
