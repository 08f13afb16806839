"""Sets of marks: tuples of whole numbers from 1 to 96, rising, each once."""

from setmend.errors import NoSet

LAST_MARK = 96


def is_set(marks):
    """Whether a tuple of whole numbers is a set."""
    # Every mark is above 0, so one rule serves for the first mark and the rest.
    before = 0
    for mark in marks:
        if mark <= before or mark > LAST_MARK:
            return False
        before = mark
    return True


def refuse_unless_set(marks):
    """Raise NoSet where a tuple of whole numbers is no set."""
    if not is_set(marks):
        raise NoSet("a set has marks from 1 to 96, rising, each once")


def without(marks, others):
    """The marks that are none of the others."""
    return tuple([mark for mark in marks if mark not in others])


def apart(one, other):
    """What the one lacks of the other, and what it has over."""
    refuse_unless_set(one)
    refuse_unless_set(other)
    return without(other, one), without(one, other)


def mended(own, lacks, over):
    """The marks of lacks, and those of its own that over hasn't, as a set."""
    refuse_unless_set(own)
    refuse_unless_set(lacks)
    refuse_unless_set(over)
    # Lacks may hold a mark that is kept too; the set has it once.
    return tuple(sorted(set(lacks + without(own, over))))
