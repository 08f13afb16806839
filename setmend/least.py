"""The fewest sums that tell sets of a few marks apart, and a reason why fewer do not."""

from itertools import combinations

from setmend.errors import NoSet
from setmend.leading import refuse_unless_bound
from setmend.sets import refuse_unless_set, without
from setmend.sums import sums

MOST_MARKS = 9


def pairs_without_common(marks, most):
    """Each two sets of these marks without a common mark, both of as many marks: one to so many."""
    pairs = []
    all_marks = list(marks)
    for size in range(1, min(most, len(marks) // 2) + 1):
        for one in combinations(all_marks, size):
            rest = list(without(marks, one))
            for other in combinations(rest, size):
                if one < other:
                    pairs.append((one, other))
    return pairs


def least(marks, bound):
    """The fewest sums that tell apart what the bound allows of these marks, and a reason why fewer do not."""
    refuse_unless_set(marks)
    if len(marks) > MOST_MARKS:
        raise NoSet("the fewest sums are told of at most nine marks")
    refuse_unless_bound(bound)
    fewest = 0
    reason = None
    # Common marks make no difference to the sums of two sets. And two sets of as many marks, both within the
    # bound of a third one, have each at most so many marks as the bound tells that the other hasn't. So sets
    # without a common mark, of so many marks, are all that need be tried; the set without marks lies between.
    for one, other in pairs_without_common(marks, bound):
        while sums(one, fewest) == sums(other, fewest):
            fewest += 1
            reason = ((), one, other)
    return (fewest, reason)
