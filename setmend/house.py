"""Houses: hands that begin alike, do deeds each by itself, and are made alike again."""

from itertools import combinations

from setmend.errors import Held, Late, NoHand, NoMark, NotHeld
from setmend.leading import led, needed
from setmend.letters import refuse_unless_letter
from setmend.sets import LAST_MARK, apart, is_set, mended, refuse_unless_set
from setmend.sums import sums

FEWEST_HANDS = 2
MOST_HANDS = 4


def refuse_unless_mark(mark):
    """Raise NoMark where a whole number is no mark."""
    if not is_set((mark,)):
        raise NoMark("a mark is from 1 to 96")


class House:
    """Two to four hands, numbered from 0, that all begin with the same set."""

    def __init__(self, marks, many):
        refuse_unless_set(marks)
        if many < FEWEST_HANDS or many > MOST_HANDS:
            raise NoHand("a house has two to four hands")
        self._sets = [marks] * many
        # By the hand, then by the other one; what stands at one and the same is never told.
        self._deeds = [[0] * many for _ in range(many)]
        self._turns = [[0] * many for _ in range(many)]

    def marks(self, hand):
        """The set that a hand has."""
        self._refuse_unless_hand(hand)
        return self._sets[hand]

    def put(self, hand, mark):
        """Put a mark that the hand hasn't; how many it has then."""
        self._refuse_unless_hand(hand)
        refuse_unless_mark(mark)
        if mark in self._sets[hand]:
            raise Held("the hand has this mark")
        self._change(hand, mended(self._sets[hand], (mark,), ()))
        return len(self._sets[hand])

    def take(self, hand, mark):
        """Take a mark that the hand has; how many it has then."""
        self._refuse_unless_hand(hand)
        refuse_unless_mark(mark)
        if mark not in self._sets[hand]:
            raise NotHeld("the hand hasn't this mark")
        self._change(hand, mended(self._sets[hand], (), (mark,)))
        return len(self._sets[hand])

    def deeds(self, hand, other):
        """How many marks the hand has put or taken since both were last made alike."""
        self._refuse_unless_two(hand, other)
        return self._deeds[hand][other]

    def turn(self, hand, other):
        """How many times both hands were made alike."""
        self._refuse_unless_two(hand, other)
        return self._turns[hand][other]

    def letter(self, hand, other, many):
        """The letter of the hand to the other one, with so many sums."""
        self._refuse_unless_two(hand, other)
        marks = self._sets[hand]
        return (self._turns[hand][other], self._deeds[hand][other], len(marks), sums(marks, many))

    def hear(self, hand, other, letter):
        """What a letter of the other one leads the hand to: what it lacks and has over, or None."""
        self._refuse_unless_two(hand, other)
        refuse_unless_letter(letter)
        turn, deeds, count, told = letter
        if turn != self._turns[hand][other]:
            raise Late("the letter is of another turn")
        return led(self._sets[hand], self._deeds[hand][other] + deeds, count, told)

    def meet(self, one, other):
        """Let both hold what one of both held; how many sums each told the other one."""
        self._refuse_unless_two(one, other)
        # What leads the one leads the other: bound, limit and difference are the same both ways.
        many = self._needed(one, other)
        marks = mended(self._sets[one], self._sets[other], ())
        self._change(one, marks)
        self._change(other, marks)
        self._make_alike(one, other)
        return many

    def settle(self):
        """Let all hold what more than half of them held; how many sums each told, hand by hand."""
        hands = list(range(len(self._sets)))
        told = tuple([self._needed_by_all(hand) for hand in hands])
        marks = tuple([mark for mark in range(1, LAST_MARK + 1) if self._most_hold(mark)])
        for hand in hands:
            self._change(hand, marks)
        for one, other in combinations(hands, 2):
            self._make_alike(one, other)
        return told

    def _refuse_unless_hand(self, hand):
        """Raise NoHand where there isn't such a hand."""
        if hand < 0 or hand >= len(self._sets):
            raise NoHand("there isn't such a hand")

    def _refuse_unless_two(self, hand, other):
        """Raise NoHand where these aren't two hands."""
        self._refuse_unless_hand(hand)
        self._refuse_unless_hand(other)
        if hand == other:
            raise NoHand("one and the same hand is named twice")

    def _others(self, hand):
        """All hands but this one."""
        return [other for other in range(len(self._sets)) if other != hand]

    def _most_hold(self, mark):
        """Whether more than half of the hands hold a mark."""
        return 2 * len([marks for marks in self._sets if mark in marks]) > len(self._sets)

    def _change(self, hand, marks):
        """Let a hand hold these marks; each one that comes or goes is a deed of it to all others."""
        come, gone = apart(self._sets[hand], marks)
        self._sets[hand] = marks
        for other in self._others(hand):
            self._deeds[hand][other] += len(come) + len(gone)

    def _make_alike(self, one, other):
        """Begin the next turn of two hands that hold the same marks."""
        for hand, further in [(one, other), (other, one)]:
            self._deeds[hand][further] = 0
            self._turns[hand][further] += 1

    def _needed(self, hand, other):
        """The fewest sums of the hand by which the other one is led."""
        lacks, over = apart(self._sets[other], self._sets[hand])
        bound = self._deeds[hand][other] + self._deeds[other][hand]
        return needed(bound, len(lacks) - len(over), len(lacks) + len(over))

    def _needed_by_all(self, hand):
        """The fewest sums of the hand by which all others are led."""
        return max([self._needed(hand, other) for other in self._others(hand)])
