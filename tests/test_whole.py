"""Promise [3], of whole houses."""

import random
import unittest

from setmend.errors import Late
from setmend.letters import read, written
from setmend.sets import apart
from tests.helper import ALL_MARKS, SETS, HouseCase, differ, limit_of, needed, some_sets


class WholeTest(HouseCase):
    """[3], of hands that put, take, meet and settle in orders as drawn."""

    def check_heard(self, house, plain, kept):
        """A letter that was kept, with the set it told of, is heard: [3] holds of it, and the house is the same."""
        hand, other, letter, told_of = kept
        if letter[0] != plain.turn(hand, other):
            self.refused(Late, house.hear, other, hand, letter)
            return "late"
        own = house.marks(other)
        bound = letter[1] + plain.deeds(other, hand)
        self.assertLessEqual(differ(own, told_of), bound)
        together = limit_of(bound, len(told_of) - len(own)) + differ(own, told_of)
        due = apart(own, told_of) if 2 * len(letter[3]) >= together else None
        self.assertEqual(house.hear(other, hand, letter), due, (own, told_of, letter))
        if len(letter[3]) == 96:
            self.assertIsNotNone(due)
        return "none" if due is None else "led"

    def tell_one(self, house, chance, many):
        """A letter as drawn, to be kept with its hands and the set that it tells of."""
        hand, other = chance.sample(range(many), 2)
        bound = house.deeds(hand, other) + house.deeds(other, hand)
        near = needed(house.marks(other), bound, house.marks(hand))
        told = max(0, min(96, chance.choice((0, near - 1, near, near + 1, near + 2, near + 5, 96))))
        letter = house.letter(hand, other, told)
        if chance.random() < 0.5:
            letter = read(written(letter))
        return (hand, other, letter, house.marks(hand))

    def step(self, house, plain, chance, many):
        """One deed, meeting or settling as drawn."""
        drawn = chance.random()
        if drawn < 0.04:
            self.settle(house, plain)
        elif drawn < 0.14:
            self.meet(house, plain, *chance.sample(range(many), 2))
        else:
            self.change(house, plain, chance.randrange(many), chance.choice(ALL_MARKS))

    def check_drawn(self, seed, marks, many, steps):
        chance = random.Random(seed)
        house, plain = self.begin(marks, many)
        kept, ends = [], []
        for _ in range(steps):
            self.step(house, plain, chance, many)
            if chance.random() < 0.4:
                kept.append(self.tell_one(house, chance, many))
            for one in chance.sample(kept, min(len(kept), 2)):
                ends.append(self.check_heard(house, plain, one))
            kept = kept[-12:]
            self.check_house(house, plain)
        return ends

    def test_orders_as_drawn(self):
        ends = []
        for seed, marks in enumerate(some_sets(1200, 20) + list(SETS)):
            ends += self.check_drawn(1300 + seed, marks, 2 + seed % 3, 120)
        # The orders are such that all ends are come to, and often.
        for end in ("late", "none", "led"):
            self.assertGreater(ends.count(end), 100, end)

    def test_few_marks_that_go_and_come(self):
        # Of few marks many deeds undo each other: bounds are great, differences are small.
        for seed in range(6):
            chance = random.Random(1400 + seed)
            house, plain = self.begin((1, 96), 3)
            kept = []
            for at in range(90):
                self.change(house, plain, chance.randrange(3), chance.choice((1, 2, 48, 95, 96)))
                if at % 9 == 0:
                    kept.append(self.tell_one(house, chance, 3))
                if at == 60:
                    self.meet(house, plain, 0, 1)
                self.check_heard(house, plain, chance.choice(kept))
            self.settle(house, plain)
            for one in kept:
                self.assertEqual(self.check_heard(house, plain, one), "late")


if __name__ == "__main__":
    unittest.main()
