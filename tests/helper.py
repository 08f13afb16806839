"""What the tests of all stages share: numbers and sets to try, and how a call is checked."""

import copy
import inspect
import random
import unittest

import setmend.errors as errors

BIGGEST = 10 ** 60 - 1
ALL_MARKS = tuple(range(1, 97))
SETS = (
    (),
    (1,),
    (96,),
    (48,),
    (1, 2),
    (95, 96),
    (1, 96),
    (40, 41, 42, 43),
    (5, 17, 33, 80),
    tuple(range(3, 97, 7)),
    tuple(range(1, 97, 2)),
    tuple(range(2, 97, 2)),
    ALL_MARKS[:-1],
    ALL_MARKS[1:],
    ALL_MARKS,
)
NO_SETS = (
    (0,),
    (97,),
    (-1,),
    (-96,),
    (0, 1),
    (96, 97),
    (-3, 5),
    (1, 1),
    (96, 96),
    (7, 7, 8),
    (3, 9, 9),
    (1, 2, 1),
    (2, 1),
    (96, 1),
    (5, 6, 8, 7),
    (0,) + ALL_MARKS,
    ALL_MARKS + (97,),
    ALL_MARKS[::-1],
    (BIGGEST,),
    (-BIGGEST,),
    (5, BIGGEST),
    (-BIGGEST, 5),
    (5, 97 * 10 ** 57 + 6),
)
# Numbers that are no count and no sum.
NO_COUNTS = (-1, 97, -2, 98, -96, -97, 194, 10 ** 59, -10 ** 59, BIGGEST, -BIGGEST, 97 * 10 ** 57 + 5)


def some_sets(seed, many):
    """Sets of all sizes, the same ones in each run."""
    chance = random.Random(seed)
    return [tuple(sorted(chance.sample(ALL_MARKS, chance.randint(0, 96)))) for _ in range(many)]


def some_numbers(seed, many):
    """Whole numbers of one to sixty figures, above and below nought, the same ones in each run."""
    chance = random.Random(seed)
    return [chance.choice((-1, 1)) * chance.randrange(10 ** chance.randint(1, 60)) for _ in range(many)]


def multiplied(one, other):
    """Two rows multiplied as rows of powers from the highest down are."""
    product = [0] * (len(one) + len(other) - 1)
    for place, number in enumerate(one):
        for further, factor in enumerate(other):
            product[place + further] += number * factor
    return tuple(product)


def changed(marks, others):
    """The set that differs from this one in just these others."""
    return tuple(sorted(set(marks) ^ set(others)))


class MendCase(unittest.TestCase):
    def told(self, called, *handed):
        """What a call gives: the same again, and nothing that was handed in is changed."""
        before = copy.deepcopy(handed)
        first = called(*handed)
        self.assertEqual(handed, before)
        kept = copy.deepcopy(first)
        again = called(*handed)
        self.assertEqual(again, kept)
        self.assertEqual(first, kept)
        self.assertEqual(handed, before)
        return first

    def refused(self, error, called, *handed):
        """The call raises just this error, each time, and nothing that was handed in is changed."""
        before = copy.deepcopy(handed)
        for _ in range(2):
            with self.assertRaises(ValueError) as caught:
                called(*handed)
            self.assertIs(type(caught.exception), error, handed)
            self.assertIsInstance(caught.exception, errors.MendError)
        self.assertEqual(handed, before)

    def check_numbers(self, numbers, low, high):
        """A tuple of whole numbers, none of them a truth, from low to high."""
        self.assertIs(type(numbers), tuple)
        for number in numbers:
            self.assertIs(type(number), int)
            self.assertTrue(low <= number <= high, number)

    def check_set(self, marks):
        self.check_numbers(marks, 1, 96)
        self.assertEqual(list(marks), sorted(set(marks)))

    def check_function(self, module, name, parameters):
        """The module itself defines a function of this name with these parameters."""
        found = getattr(module, name)
        self.assertTrue(inspect.isfunction(found), name)
        self.assertEqual(found.__module__, module.__name__)
        self.assertEqual(found.__name__, name)
        self.assertEqual(list(inspect.signature(found).parameters), parameters)
