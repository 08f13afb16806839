"""What the tests of all stages share: numbers and sets to try, and how a call is checked."""

import copy
import inspect
import itertools
import random
import unittest

import setmend.errors as errors
from setmend.house import House
from setmend.sets import apart

BIGGEST = 10 ** 60 - 1
ALL_MARKS = tuple(range(1, 97))
SETS = (
    (),
    (1,),
    (96,),
    (48,),
    (1, 2),
    (95, 96),
    (1, 96),
    (40, 41, 42, 43),
    (5, 17, 33, 80),
    tuple(range(3, 97, 7)),
    tuple(range(1, 97, 2)),
    tuple(range(2, 97, 2)),
    ALL_MARKS[:-1],
    ALL_MARKS[1:],
    ALL_MARKS,
)
NO_SETS = (
    (0,),
    (97,),
    (-1,),
    (-96,),
    (0, 1),
    (96, 97),
    (-3, 5),
    (1, 1),
    (96, 96),
    (7, 7, 8),
    (3, 9, 9),
    (1, 2, 1),
    (2, 1),
    (96, 1),
    (5, 6, 8, 7),
    (0,) + ALL_MARKS,
    ALL_MARKS + (97,),
    ALL_MARKS[::-1],
    (BIGGEST,),
    (-BIGGEST,),
    (5, BIGGEST),
    (-BIGGEST, 5),
    (5, 97 * 10 ** 57 + 6),
)
# Numbers that are no count and no sum.
NO_COUNTS = (-1, 97, -2, 98, -96, -97, 194, 10 ** 59, -10 ** 59, BIGGEST, -BIGGEST, 97 * 10 ** 57 + 5)

# Things of any kind that are no letter.
NO_LETTERS = (
    None, True, False, 0, 1, BIGGEST, "", "0 3 17: 5 80", b"0 3 17:", [], {}, (), (0,), (0, 3), (0, 3, 17),
    (0, 3, 17, (), ()), (0, 3, 17, (5, 80), 1), (0, 3, 17, 5, 80), [0, 3, 17, (5, 80)], {0: 0, 1: 3, 2: 17, 3: ()},
    "0317", ((0, 3, 17, (5, 80)),), (0, 3, 17, [5, 80]), (0, 3, 17, []), (0, 3, 17, "5"), (0, 3, 17, ""),
    (0, 3, 17, 5), (0, 3, 17, None), (0, 3, 17, {}), (0, 3, 17, {5: 80}), (0, 3, 17, ((5,),)), (0, 3, 17, (5, None)),
    (0, 3, 17, (5, "80")), (0, 3, 17, (True,)), (0, 3, 17, (5, False)), (True, 3, 17, (5,)), (0, False, 17, (5,)),
    (0, 3, True, (5,)), (None, 3, 17, ()), (0, None, 17, ()), (0, 3, None, ()), ("0", 3, 17, ()), (0, "3", 17, ()),
    (0, 3, "17", ()), (-1, 3, 17, ()), (0, -1, 17, ()), (0, 3, -1, ()), (-BIGGEST, 3, 17, ()), (0, -BIGGEST, 17, ()),
    (0, 3, 97, ()), (0, 3, BIGGEST, ()), (0, 3, 17, (-1,)), (0, 3, 17, (97,)), (0, 3, 17, (5, BIGGEST)),
    (0, 3, 17, (0,) * 97), ([0], 3, 17, ()), ((0,), 3, 17, ()), (0, 3, (17,), ()),
)


def some_sets(seed, many):
    """Sets of all sizes, the same ones in each run."""
    chance = random.Random(seed)
    return [tuple(sorted(chance.sample(ALL_MARKS, chance.randint(0, 96)))) for _ in range(many)]


def some_numbers(seed, many):
    """Whole numbers of one to sixty figures, above and below nought, the same ones in each run."""
    chance = random.Random(seed)
    return [chance.choice((-1, 1)) * chance.randrange(10 ** chance.randint(1, 60)) for _ in range(many)]


def multiplied(one, other):
    """Two rows multiplied as rows of powers from the highest down are."""
    product = [0] * (len(one) + len(other) - 1)
    for place, number in enumerate(one):
        for further, factor in enumerate(other):
            product[place + further] += number * factor
    return tuple(product)


def changed(marks, others):
    """The set that differs from this one in just these others."""
    return tuple(sorted(set(marks) ^ set(others)))


def limit_of(bound, more):
    """[11]'s first sentence: the greatest of the numbers that may be the limit."""
    return max([-1] + [limit for limit in range(97) if limit <= bound and (limit - more) % 2 == 0])


def reach_of(bound, more, many):
    limit = limit_of(bound, more)
    return min(limit, 2 * many - limit)


def differ(one, other):
    return len(set(one) ^ set(other))


def needed(own, bound, other):
    """The fewest sums of which twice is no fewer than the limit and the difference, together."""
    together = limit_of(bound, len(other) - len(own)) + differ(own, other)
    return (together + 1) // 2


def coset(power, factor):
    """The marks that come to 1 by a power, each times the factor."""
    return tuple(sorted(mark * factor % 97 for mark in ALL_MARKS if mark ** power % 97 == 1))


class MendCase(unittest.TestCase):
    def told(self, called, *handed):
        """What a call gives: the same again, and nothing that was handed in is changed."""
        before = copy.deepcopy(handed)
        first = called(*handed)
        self.assertEqual(handed, before)
        kept = copy.deepcopy(first)
        again = called(*handed)
        self.assertEqual(again, kept)
        self.assertEqual(first, kept)
        self.assertEqual(handed, before)
        return first

    def refused(self, error, called, *handed):
        """The call raises just this error, each time, and nothing that was handed in is changed."""
        before = copy.deepcopy(handed)
        for _ in range(2):
            with self.assertRaises(ValueError) as caught:
                called(*handed)
            self.assertIs(type(caught.exception), error, handed)
            self.assertIsInstance(caught.exception, errors.MendError)
        self.assertEqual(handed, before)

    def check_numbers(self, numbers, low, high):
        """A tuple of whole numbers, none of them a truth, from low to high."""
        self.assertIs(type(numbers), tuple)
        for number in numbers:
            self.assertIs(type(number), int)
            self.assertTrue(low <= number <= high, number)

    def check_set(self, marks):
        self.check_numbers(marks, 1, 96)
        self.assertEqual(list(marks), sorted(set(marks)))

    def check_function(self, module, name, parameters):
        """The module itself defines a function of this name with these parameters."""
        found = getattr(module, name)
        self.assertTrue(inspect.isfunction(found), name)
        self.assertEqual(found.__module__, module.__name__)
        self.assertEqual(found.__name__, name)
        self.assertEqual(list(inspect.signature(found).parameters), parameters)

    def check_class(self, module, name, parameters, methods):
        """The module itself defines a class of this name, the class itself these methods with these parameters."""
        found = getattr(module, name)
        self.assertTrue(inspect.isclass(found), name)
        self.assertEqual((found.__module__, found.__name__), (module.__name__, name))
        for method, named in {"__init__": parameters, **methods}.items():
            self.assertTrue(inspect.isfunction(vars(found).get(method)), method)
            self.assertEqual(list(inspect.signature(vars(found)[method]).parameters), ["self", *named], method)


class PlainHouse:
    """[15] and [17] word by word: deeds are counted in the list of all that was ever done."""

    def __init__(self, marks, many):
        self.sets = [set(marks) for _ in range(many)]
        # The hand of each deed, and for each two hands how many deeds there were whenever they were made alike.
        self.done = []
        self.alike = {frozenset(pair): [] for pair in itertools.combinations(range(many), 2)}

    def hold(self, hand, marks):
        self.done += [hand] * len(self.sets[hand] ^ marks)
        self.sets[hand] = marks

    def turn(self, hand, other):
        return len(self.alike[frozenset((hand, other))])

    def deeds(self, hand, other):
        begin = ([0] + self.alike[frozenset((hand, other))])[-1]
        return self.done[begin:].count(hand)

    def meet(self, one, other):
        both = self.sets[one] | self.sets[other]
        self.hold(one, set(both))
        self.hold(other, set(both))
        self.alike[frozenset((one, other))].append(len(self.done))

    def settle(self):
        most = {mark for mark in ALL_MARKS if sum(mark in held for held in self.sets) > len(self.sets) / 2}
        for hand in range(len(self.sets)):
            self.hold(hand, set(most))
        for ends in self.alike.values():
            ends.append(len(self.done))


class HouseCase(MendCase):
    """A house and a plain one side by side: whatever is done, both are the same."""

    def begin(self, marks, many):
        house, plain = House(marks, many), PlainHouse(marks, many)
        self.check_house(house, plain)
        return house, plain

    def check_house(self, house, plain):
        hands = range(len(plain.sets))
        for hand in hands:
            marks = self.told(house.marks, hand)
            self.check_set(marks)
            self.assertEqual(marks, tuple(sorted(plain.sets[hand])), hand)
        for hand, other in itertools.permutations(hands, 2):
            numbers = (house.deeds(hand, other), house.turn(hand, other))
            self.assertEqual([type(number) for number in numbers], [int, int])
            self.assertEqual(numbers, (plain.deeds(hand, other), plain.turn(hand, other)), (hand, other))

    def put(self, house, plain, hand, mark):
        found = house.put(hand, mark)
        plain.hold(hand, plain.sets[hand] | {mark})
        self.check_deed(house, plain, hand, found)

    def take(self, house, plain, hand, mark):
        found = house.take(hand, mark)
        plain.hold(hand, plain.sets[hand] - {mark})
        self.check_deed(house, plain, hand, found)

    def check_deed(self, house, plain, hand, found):
        self.assertIs(type(found), int)
        self.assertEqual(found, len(plain.sets[hand]))
        self.check_house(house, plain)

    def change(self, house, plain, hand, mark):
        """Put the mark where the hand hasn't it, take it where it has."""
        deed = self.take if mark in plain.sets[hand] else self.put
        deed(house, plain, hand, mark)

    def deeds_of(self, house, plain, hand, marks):
        for mark in marks:
            self.change(house, plain, hand, mark)

    def many_deeds(self, house, plain, seed, many):
        """So many deeds of all hands, the same ones in each run."""
        chance = random.Random(seed)
        for _ in range(many):
            self.change(house, plain, chance.randrange(len(plain.sets)), chance.choice(ALL_MARKS))

    def is_led(self, house, hand, other, many):
        """Whether a letter of the other hand with so many sums leads this one: if so, to just what is due."""
        found = house.hear(hand, other, house.letter(other, hand, many))
        if found is not None:
            self.assertEqual(found, apart(house.marks(hand), house.marks(other)))
        return found is not None

    def both_led(self, house, one, other, many):
        return self.is_led(house, one, other, many) and self.is_led(house, other, one, many)

    def others_led(self, house, plain, hand, many):
        """Whether letters of the hand with so many sums lead all others."""
        others = [other for other in range(len(plain.sets)) if other != hand]
        return all([self.is_led(house, other, hand, many) for other in others])

    def meet(self, house, plain, one, other):
        """Let both meet; how many sums each told."""
        due = self.fewest_for_both(house, one, other)
        found = house.meet(one, other)
        plain.meet(one, other)
        self.assertIs(type(found), int)
        self.assertEqual(found, due)
        self.check_house(house, plain)
        return found

    def settle(self, house, plain):
        """Let all settle; how many sums each told."""
        hands = range(len(plain.sets))
        due = tuple(
            max(self.fewest_for_both(house, hand, other) for other in hands if other != hand) for hand in hands
        )
        found = house.settle()
        plain.settle()
        self.check_numbers(found, 0, 96)
        self.assertEqual(found, due)
        self.check_house(house, plain)
        return found

    def fewest_for_both(self, house, one, other):
        """The fewest sums by which both are led, as [3] tells them: they do, and one fewer leads neither."""
        bound = house.deeds(one, other) + house.deeds(other, one)
        many = needed(house.marks(one), bound, house.marks(other))
        self.assertTrue(self.both_led(house, one, other, many))
        if many > 0:
            self.assertFalse(self.is_led(house, one, other, many - 1))
            self.assertFalse(self.is_led(house, other, one, many - 1))
        return many
