"""Rows of numbers on the wheel: what they are worth, and their noughts."""

from setmend.errors import NoInverse
from setmend.sets import LAST_MARK, refuse_unless_set

WHEEL = 97


def inverse(number):
    """The number from 1 to 96 by which this one comes to 1 on the wheel."""
    rest = number % WHEEL
    for guess in range(1, WHEEL):
        if rest * guess % WHEEL == 1:
            return guess
    raise NoInverse("a number that comes to 0 on the wheel has no inverse")


def worth(row, x):
    """What a row, its highest power first, is worth at x on the wheel."""
    total = 0
    for number in row:
        total = (total * x + number) % WHEEL
    return total


def with_nought(row, mark):
    """The row multiplied by (1, -mark), so that the mark is a nought of it too."""
    # Times x a row moves up by one power; times the mark it stays where it is.
    return [(higher - mark * lower) % WHEEL for higher, lower in zip([*row, 0], [0, *row])]


def row_of(marks):
    """The row that begins with 1 and has just the set's marks as noughts."""
    refuse_unless_set(marks)
    row = [1]
    for mark in marks:
        row = with_nought(row, mark)
    return tuple(row)


def noughts(row):
    """The marks at which a row is worth 0, as a set."""
    return tuple([mark for mark in range(1, LAST_MARK + 1) if worth(row, mark) == 0])
