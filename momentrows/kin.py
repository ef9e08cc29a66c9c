"""Rows that are made of one row."""

from momentrows.errors import NoMean, TooMany
from momentrows.ratios import Ratio
from momentrows.rows import MOST_NUMBERS, moved_row, row_numbers


def halved(row):
    """The numbers m0, m2, m4, .."""
    return row_numbers(row)[::2]


def doubled(row):
    """The numbers m0, 0, m1, 0, .., md."""
    numbers = row_numbers(row)
    if 2 * len(numbers) - 1 > MOST_NUMBERS:
        raise TooMany()
    found = [numbers[0]]
    for number in numbers[1:]:
        found.append(Ratio(0))
        found.append(number)
    return found


def centred(row):
    """The row moved so that m1 becomes 0."""
    numbers = row_numbers(row)
    if len(numbers) == 1 or numbers[0] == 0:
        raise NoMean()
    return moved_row(numbers, -numbers[1].over(numbers[0]))


def differences(row):
    """The row, and d more lists, each of the differences a - b of the neighbours a, b in the list before it."""
    found = [row_numbers(row)]
    while len(found[-1]) > 1:
        line = found[-1]
        found.append([line[k] - line[k + 1] for k in range(len(line) - 1)])
    return found
