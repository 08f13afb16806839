"""What a bound, a count and a few sums lead a hand to."""

from setmend.errors import NoCount
from setmend.rows import WHEEL, noughts
from setmend.sets import LAST_MARK, apart, mended, refuse_unless_set
from setmend.solving import solved
from setmend.sums import refuse_unless_count, row_by, sums


def limit(bound, more):
    """In how many marks another set can differ at most, within the bound."""
    most = min(bound, LAST_MARK)
    if (most - more) % 2 != 0:
        most -= 1
    return most


def reach(bound, more, many):
    """In how many marks another set may differ at most, for so many sums to lead to it."""
    most = limit(bound, more)
    return min(most, 2 * many - most)


def needed(bound, more, far):
    """The fewest sums that lead to another set within the bound, which differs in so many marks."""
    # Limit and difference are both odd or both even, as more is: twice the sums are just both together.
    return (limit(bound, more) + far) // 2


def refuse_unless_bound(bound):
    """Raise NoCount where a whole number is no bound."""
    if bound < 0:
        raise NoCount("a bound is 0 or more")


def refuse_unless_told(bound, count, told):
    """Raise NoCount where these can't be told to a hand."""
    refuse_unless_bound(bound)
    for number in [count, len(told), *told]:
        refuse_unless_count(number)


def row_of_changes(own, told):
    """The row by which the row of the own set comes to that of the other one, as far as the sums tell."""
    return row_by(tuple([sum_told - own_sum for sum_told, own_sum in zip(told, sums(own, len(told)))]))


def row_of_over(changes, lacks, over):
    """The only row of so many marks over that turns the row of changes into one of so many lacks; else None.

    The row of changes multiplied by the row of what is over comes to the row of
    what lacks: behind that row's own numbers it has to come to 0.
    """
    padded = [0] * over + list(changes)
    places = range(lacks + 1, len(changes))
    rows = [tuple(padded[place:place + over][::-1]) for place in places]
    ends = [-changes[place] for place in places]
    numbers = solved(over, rows, ends)
    if numbers is None:
        return None
    return (1, *numbers)


def row_of_lacks(changes, over_row, lacks):
    """The row of so many lacks: the row of changes multiplied by the row of what is over."""
    row = []
    for place in range(lacks + 1):
        parts = [number * changes[place - k] for k, number in enumerate(over_row[:place + 1])]
        row.append(sum(parts) % WHEEL)
    return tuple(row)


def led(own, bound, count, told):
    """What the own set lacks and has over of the set that the sums lead to; None where they lead to none."""
    refuse_unless_set(own)
    refuse_unless_told(bound, count, told)
    changes = row_of_changes(own, told)
    more = count - len(own)
    for far in range(abs(more), reach(bound, more, len(told)) + 1, 2):
        lacks = (far + more) // 2
        over_row = row_of_over(changes, lacks, (far - more) // 2)
        if over_row is not None:
            lacks_row = row_of_lacks(changes, over_row, lacks)
            other = mended(own, noughts(lacks_row), noughts(over_row))
            # Rows of more marks would only be these two multiplied alike: there is no use in going on.
            if len(other) == count and sums(other, len(told)) == told:
                return apart(own, other)
            return None
    return None
