"""The first sums of a set, and the row that such sums lead to."""

from setmend.errors import NoCount
from setmend.rows import WHEEL, inverse
from setmend.sets import refuse_unless_set


def refuse_unless_count(number):
    """Raise NoCount where a whole number isn't from 0 to 96."""
    if number < 0 or number >= WHEEL:
        raise NoCount("a count, a sum and a place are from 0 to 96")


def sums(marks, many):
    """The first sums of a set: sum k is that of its marks to the power k, on the wheel."""
    refuse_unless_set(marks)
    refuse_unless_count(many)
    powers = [1] * len(marks)
    found = []
    for _ in range(many):
        powers = [power * mark % WHEEL for power, mark in zip(powers, marks)]
        found.append(sum(powers) % WHEEL)
    return tuple(found)


def row_by(told):
    """The row that begins with 1, and of which k times the number at k comes to 0 with what the sums tell."""
    refuse_unless_count(len(told))
    row = [1]
    for k in range(1, len(told) + 1):
        # The sums up to k, the first one times the newest number of the row and sum k times the oldest.
        total = sum([number * before for number, before in zip(told[:k], row[::-1])])
        # No k up to 96 comes to 0 on the wheel, so each has an inverse.
        row.append(-total * inverse(k) % WHEEL)
    return tuple(row)
