"""Promises [1], [2] and [13], and the interface of setmend/ears.py."""

import random
import unittest

import setmend.ears as ears
from setmend.ears import Ear
from setmend.errors import NoCount, NoSet, Unlike
from setmend.leading import led
from setmend.sets import apart
from setmend.sums import sums
from tests.helper import (
    ALL_MARKS, BIGGEST, NO_COUNTS, NO_SETS, SETS, MendCase, changed, differ, needed, some_numbers, some_sets,
)


def pieces_of(marks, many=96):
    """The count of a set and so many sums of it, each at its place."""
    return dict(enumerate((len(marks),) + sums(marks, many)))


def known_of(heard):
    """How many of the places from 1 on were heard before the first gap."""
    return min(place for place in range(1, 98) if place not in heard) - 1


def orders(places, seed):
    """The places rising, falling, the count last, every second one first, and twice as drawn."""
    chance = random.Random(seed)
    rising = sorted(places)
    yield rising
    yield rising[::-1]
    yield rising[1:] + rising[:1]
    yield rising[::2] + rising[1::2]
    yield rising[1::2] + rising[::2]
    for _ in range(2):
        yield chance.sample(rising, len(rising))


class EarCase(MendCase):
    def check_ear(self, ear, own, bound, heard):
        """The ear knows and is led to what is due by the pieces that it has heard."""
        self.assertIs(type(ear.known()), int)
        self.assertEqual(ear.known(), known_of(heard))
        due = None
        if 0 in heard:
            told = tuple(heard[place] for place in range(1, known_of(heard) + 1))
            due = led(own, bound, heard[0], told)
        for _ in range(2):
            self.assertEqual(self.told(ear.leads), due, (own, bound, heard))
        return due

    def hear_all(self, own, bound, pieces, order):
        """An ear that hears the pieces in this order, checked ahead of them and behind each one."""
        ear = Ear(own, bound)
        heard = {}
        self.check_ear(ear, own, bound, heard)
        for place in order:
            self.assertIsNone(ear.hear(place, pieces[place]))
            heard[place] = pieces[place]
            self.check_ear(ear, own, bound, heard)
        return ear


class InterfaceTest(MendCase):
    def test_the_class_stands_in_its_file(self):
        methods = {"hear": ["place", "number"], "known": [], "leads": []}
        self.check_class(ears, "Ear", ["own", "bound"], methods)


class HearTest(EarCase):
    def test_known_ones(self):
        ear = Ear((5, 80), 2)
        self.assertEqual((ear.known(), ear.leads()), (0, None))
        ear.hear(2, 7)
        self.assertEqual((ear.known(), ear.leads()), (0, None))
        ear.hear(0, 2)
        self.assertEqual((ear.known(), ear.leads()), (0, None))
        ear.hear(1, 83)
        self.assertEqual((ear.known(), ear.leads()), (2, ((3,), (5,))))
        ear.hear(4, 0)
        self.assertEqual((ear.known(), ear.leads()), (2, ((3,), (5,))))

    def test_several_orders(self):
        for own in ((), (5, 17, 33, 80), ALL_MARKS, some_sets(401, 1)[0]):
            for others in ((), (5,), (1, 96), (3, 17, 50), (5, 17, 33, 80)):
                other = changed(own, others)
                for bound in (0, 1, len(others), len(others) + 3):
                    pieces = pieces_of(other, 7)
                    for order in orders(pieces, 402):
                        self.hear_all(own, bound, pieces, order)

    def test_pieces_told_twice(self):
        own = (5, 17, 33, 80)
        pieces = pieces_of(changed(own, (17, 40)), 5)
        for order in orders(list(pieces) * 2, 403):
            self.hear_all(own, 3, pieces, order)
        for order in orders(pieces, 404):
            self.hear_all(own, 3, pieces, [place for place in order for _ in range(3)])

    def test_a_place_in_another_place(self):
        # 97 places are heard, each at its own: the last one too, and nothing behind it.
        own = SETS[8]
        other = changed(own, (1, 2, 3))
        pieces = pieces_of(other)
        ear = Ear(own, 96)
        for place in range(96, 0, -1):
            ear.hear(place, pieces[place])
            self.assertEqual(ear.known(), 96 if place == 1 else 0)
        self.assertIsNone(ear.leads())
        ear.hear(0, pieces[0])
        self.assertEqual(ear.known(), 96)
        self.assertEqual(ear.leads(), apart(own, other))

    def test_each_gap(self):
        own = SETS[9]
        other = changed(own, (2, 3))
        pieces = pieces_of(other, 12)
        for gap in range(1, 13):
            ear = self.hear_all(own, 4, pieces, [place for place in pieces if place != gap])
            self.assertEqual(ear.known(), gap - 1)
            ear.hear(gap, pieces[gap])
            self.assertEqual(ear.known(), 12)
            self.assertEqual(ear.leads(), apart(own, other))

    def test_without_the_count(self):
        for own in SETS:
            ear = Ear(own, 0)
            self.assertIsNone(ear.leads())
            for place, number in enumerate(sums(own, 96), start=1):
                ear.hear(place, number)
                self.assertEqual(ear.known(), place)
            self.assertIsNone(ear.leads())

    def test_the_count_and_no_sums(self):
        for own in SETS:
            for bound in (0, 1, 2, 5, 96, BIGGEST):
                for count in {0, 1, 96, len(own), abs(len(own) - 1)}:
                    ear = Ear(own, bound)
                    ear.hear(0, count)
                    self.check_ear(ear, own, bound, {0: count})
                    due = ((), ()) if count == len(own) and bound < 2 else None
                    self.assertEqual(ear.leads(), due, (own, bound, count))

    def test_the_very_piece_that_leads(self):
        chance = random.Random(405)
        for own in some_sets(406, 6) + [(), ALL_MARKS]:
            for far in (0, 1, 2, 5, 9):
                other = changed(own, chance.sample(ALL_MARKS, far))
                for bound in (far, far + 1, far + 4):
                    due = apart(own, other)
                    many = needed(own, bound, other)
                    pieces = pieces_of(other, min(many + 3, 96))
                    ear = Ear(own, bound)
                    ear.hear(0, pieces[0])
                    for place in range(1, len(pieces)):
                        self.assertEqual(ear.leads(), due if place > many else None, (own, bound, other, place))
                        ear.hear(place, pieces[place])
                    self.assertEqual(ear.leads(), due)

    def test_bounds_of_sixty_figures(self):
        for own, other in zip(some_sets(407, 3), some_sets(408, 3)):
            for bound in (97, 10 ** 59, BIGGEST):
                ear = Ear(own, bound)
                many = needed(own, bound, other)
                pieces = pieces_of(other)
                for place in range(many):
                    ear.hear(place, pieces[place])
                self.assertIsNone(ear.leads())
                ear.hear(many, pieces[many])
                self.assertEqual(ear.leads(), apart(own, other))

    def test_a_set_beyond_the_bound(self):
        own = SETS[8]
        for far in (2, 3, 6, 30):
            other = changed(own, ALL_MARKS[20:20 + far])
            self.assertEqual(differ(own, other), far)
            ear = self.hear_all(own, far - 1, pieces_of(other, 8), range(9))
            self.assertNotEqual(ear.leads(), apart(own, other))

    def test_any_numbers(self):
        chance = random.Random(409)
        for own in some_sets(410, 6):
            for bound in (0, 2, 5):
                pieces = {place: chance.randrange(97) for place in range(9)}
                pieces[0] = max(0, min(96, len(own) + chance.randint(-2, 2)))
                for order in orders(pieces, 411):
                    self.hear_all(own, bound, pieces, order)

    def test_a_second_ear_stays_as_it_is(self):
        own = (5, 80)
        pieces = pieces_of((3, 80), 4)
        first, second, third = Ear(own, 2), Ear(own, 2), Ear((1,), 5)
        second.hear(0, 2)
        for place, number in pieces.items():
            first.hear(place, number)
        self.assertEqual(first.leads(), ((3,), (5,)))
        self.check_ear(second, own, 2, {0: 2})
        self.check_ear(third, (1,), 5, {})
        # What one has heard is no other number to the other one.
        second.hear(1, 0)
        third.hear(0, 96)
        self.check_ear(second, own, 2, {0: 2, 1: 0})
        self.check_ear(third, (1,), 5, {0: 96})
        self.check_ear(first, own, 2, pieces)
        self.check_ear(Ear(own, 2), own, 2, {})


class RefusedTest(EarCase):
    def test_a_bound_below_nought(self):
        for bound in [-1, -2, -97, -BIGGEST] + [number for number in some_numbers(421, 20) if number < 0]:
            for own in SETS:
                self.refused(NoCount, Ear, own, bound)

    def test_no_set_is_refused_ahead_of_no_count(self):
        for wrong in NO_SETS:
            for bound in (0, 1, 96, BIGGEST, -1, -BIGGEST):
                self.refused(NoSet, Ear, wrong, bound)

    def check_refused(self, error, place, number):
        """An ear that has heard much, and one that has heard nothing, are the same behind the refusal."""
        own, bound = (5, 80), 3
        for heard in (pieces_of((3, 80), 4), {}):
            if error is Unlike and not heard:
                continue
            ear = Ear(own, bound)
            for at, told in heard.items():
                ear.hear(at, told)
            self.refused(error, ear.hear, place, number)
            self.check_ear(ear, own, bound, heard)
            for at, told in pieces_of((3, 80), 7).items():
                ear.hear(at, told)
            self.check_ear(ear, own, bound, pieces_of((3, 80), 7))

    def test_no_place(self):
        for place in NO_COUNTS + tuple(number for number in some_numbers(422, 20) if not 0 <= number <= 96):
            self.check_refused(NoCount, place, 0)
            self.check_refused(NoCount, place, 96)
            self.check_refused(NoCount, place, BIGGEST)

    def test_no_number(self):
        for number in NO_COUNTS + tuple(number for number in some_numbers(423, 20) if not 0 <= number <= 96):
            for place in (0, 1, 4, 5, 96):
                self.check_refused(NoCount, place, number)

    def test_another_number_than_was_heard(self):
        pieces = pieces_of((3, 80), 4)
        for place, told in pieces.items():
            for number in range(97):
                if number != told:
                    self.check_refused(Unlike, place, number)

    def test_another_number_where_nought_was_heard(self):
        ear = Ear((), 4)
        heard = {place: 0 for place in range(97)}
        for place in heard:
            ear.hear(place, 0)
        for place in heard:
            self.refused(Unlike, ear.hear, place, 1)
            self.refused(Unlike, ear.hear, place, 96)
        self.check_ear(ear, (), 4, heard)

    def test_no_number_is_refused_ahead_of_another_one(self):
        ear = Ear((5, 80), 3)
        ear.hear(0, 2)
        ear.hear(1, 83)
        for number in NO_COUNTS + (2 + 97, 83 - 97):
            self.refused(NoCount, ear.hear, 0, number)
            self.refused(NoCount, ear.hear, 1, number)
        self.check_ear(ear, (5, 80), 3, {0: 2, 1: 83})

    def test_the_edges_are_not_refused(self):
        ear = Ear(ALL_MARKS, 0)
        ear.hear(0, 0)
        ear.hear(96, 0)
        ear = Ear((), 0)
        ear.hear(0, 96)
        ear.hear(96, 96)
        self.check_ear(ear, (), 0, {0: 96, 96: 96})


if __name__ == "__main__":
    unittest.main()
