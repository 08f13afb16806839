"""Letters, which one hand tells another one: as tuples, and as texts."""

from setmend.errors import NoLetter, NoText
from setmend.rows import WHEEL

FIGURES = "0123456789"
MOST_FIGURES = 60
MOST_SUMS = 96


def is_whole(thing):
    """Whether a thing is a whole number from 0 on."""
    # Python counts True and False among the whole numbers; here they are none.
    return isinstance(thing, int) and not isinstance(thing, bool) and thing >= 0


def is_rest(thing):
    """Whether a thing is a whole number from 0 to 96."""
    return is_whole(thing) and thing < WHEEL


def is_letter(thing):
    """Whether a thing is a letter: a turn, deeds, a count and sums."""
    if not isinstance(thing, tuple) or len(thing) != 4:
        return False
    turn, deeds, count, told = thing
    if not isinstance(told, tuple) or len(told) > MOST_SUMS:
        return False
    return is_whole(turn) and is_whole(deeds) and all([is_rest(number) for number in [count, *told]])


def refuse_unless_letter(thing):
    """Raise NoLetter where a thing is no letter."""
    if not is_letter(thing):
        raise NoLetter("a letter has a turn, deeds, a count and a tuple of sums")


def written(letter):
    """The text as which a letter is written."""
    refuse_unless_letter(letter)
    turn, deeds, count, told = letter
    return f"{turn} {deeds} {count}:" + "".join([f" {number}" for number in told])


def number_by(word):
    """The number that a word writes; None where it writes none."""
    if word == "" or len(word) > MOST_FIGURES:
        return None
    if any([sign not in FIGURES for sign in word]):
        return None
    if word[0] == "0" and word != "0":
        return None
    return int(word)


def read(text):
    """The letter that a text writes."""
    head, colon, tail = text.partition(":")
    # Each sum has a blank ahead of it, so nothing stands ahead of the first one.
    ahead, *words = tail.split(" ")
    numbers = [number_by(word) for word in head.split(" ")]
    told = tuple([number_by(word) for word in words])
    letter = (*numbers, told)
    if colon == "" or ahead != "" or not is_letter(letter):
        raise NoText("no letter is written so")
    return letter
