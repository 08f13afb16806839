"""Promises [1], [2], [3], [15] to [17], and the interface of setmend/house.py."""

import itertools
import random
import unittest

import setmend.house as house_file
from setmend.ears import Ear
from setmend.errors import Held, Late, NoCount, NoHand, NoLetter, NoMark, NoSet, NotHeld
from setmend.house import House
from setmend.leading import led
from setmend.letters import is_letter
from setmend.sets import apart
from setmend.sums import sums
from tests.helper import (
    ALL_MARKS, BIGGEST, NO_COUNTS, NO_LETTERS, NO_SETS, SETS, HouseCase, differ, limit_of, needed, some_numbers, some_sets,
)

NO_MARKS = (0, -1, 97, 98, -96, -97, 194, 10 ** 59, BIGGEST, -BIGGEST, 97 * 10 ** 57 + 5)


def no_hands(many):
    """Numbers of no hand in a house of so many."""
    return (-1, -2, -many, many, many + 1, 96, 10 ** 59, BIGGEST, -BIGGEST)


class InterfaceTest(HouseCase):
    def test_the_class_stands_in_its_file(self):
        methods = {
            "marks": ["hand"], "put": ["hand", "mark"], "take": ["hand", "mark"],
            "deeds": ["hand", "other"], "turn": ["hand", "other"],
            "letter": ["hand", "other", "many"], "hear": ["hand", "other", "letter"],
            "meet": ["one", "other"], "settle": [],
        }
        self.check_class(house_file, "House", ["marks", "many"], methods)


class BeginTest(HouseCase):
    def test_all_begin_with_the_same_set(self):
        for marks in SETS:
            for many in (2, 3, 4):
                self.begin(marks, many)

    def test_other_numbers_of_hands(self):
        wrong = (1, 0, -1, -2, -4, 5, 6, 96, 10 ** 59, BIGGEST, -BIGGEST)
        for many in wrong + tuple(number for number in some_numbers(601, 20) if not 2 <= number <= 4):
            for marks in SETS:
                self.refused(NoHand, House, marks, many)

    def test_no_set_is_refused_ahead_of_no_hand(self):
        for marks in NO_SETS:
            for many in (2, 3, 4, 1, 5, 0, -1, BIGGEST, -BIGGEST):
                self.refused(NoSet, House, marks, many)

    def test_a_second_house_stays_as_it_is(self):
        first, plain = self.begin((5, 80), 3)
        second, other = self.begin((5, 80), 3)
        self.put(first, plain, 0, 7)
        self.meet(first, plain, 0, 1)
        self.settle(first, plain)
        self.check_house(second, other)


class PutTakeTest(HouseCase):
    def test_known_ones(self):
        house = House((5, 80), 2)
        self.assertEqual(house.put(0, 17), 3)
        self.assertEqual(house.marks(0), (5, 17, 80))
        self.assertEqual(house.take(1, 5), 1)
        self.assertEqual(house.marks(1), (80,))
        self.assertEqual(house.take(1, 80), 0)
        self.assertEqual(house.marks(1), ())
        self.assertEqual((house.deeds(0, 1), house.deeds(1, 0), house.turn(0, 1)), (1, 2, 0))

    def test_each_mark(self):
        house, plain = self.begin((), 2)
        for mark in ALL_MARKS:
            self.put(house, plain, 0, mark)
            self.put(house, plain, 1, 97 - mark)
        for mark in ALL_MARKS[::-1]:
            self.take(house, plain, 0, mark)
            self.take(house, plain, 1, 97 - mark)
        self.assertEqual((house.deeds(0, 1), house.deeds(1, 0)), (192, 192))

    def test_one_mark_again_and_again(self):
        house, plain = self.begin((5,), 4)
        for _ in range(3):
            self.take(house, plain, 2, 5)
            self.put(house, plain, 2, 5)
        self.assertEqual([house.deeds(2, other) for other in (0, 1, 3)], [6, 6, 6])
        self.assertEqual([house.deeds(other, 2) for other in (0, 1, 3)], [0, 0, 0])

    def test_no_hand(self):
        for many in (2, 3, 4):
            house, plain = self.begin((5, 80), many)
            for hand in no_hands(many):
                self.refused(NoHand, house.marks, hand)
                # No hand goes first, whatever the mark is.
                for mark in (5, 6) + NO_MARKS:
                    self.refused(NoHand, house.put, hand, mark)
                    self.refused(NoHand, house.take, hand, mark)
            self.check_house(house, plain)

    def test_no_mark(self):
        house, plain = self.begin((5, 80), 3)
        for mark in NO_MARKS + tuple(number for number in some_numbers(602, 20) if not 1 <= number <= 96):
            for hand in range(3):
                self.refused(NoMark, house.put, hand, mark)
                self.refused(NoMark, house.take, hand, mark)
        self.check_house(house, plain)

    def test_held_and_not_held(self):
        for marks in SETS:
            house, plain = self.begin(marks, 2)
            for mark in ALL_MARKS:
                if mark in marks:
                    self.refused(Held, house.put, 1, mark)
                else:
                    self.refused(NotHeld, house.take, 1, mark)
            self.check_house(house, plain)

    def test_held_by_another_hand_alone(self):
        house, plain = self.begin((5, 80), 2)
        self.put(house, plain, 0, 7)
        self.refused(Held, house.put, 0, 7)
        self.refused(NotHeld, house.take, 1, 7)
        self.put(house, plain, 1, 7)
        self.take(house, plain, 0, 7)
        self.refused(NotHeld, house.take, 0, 7)
        self.check_house(house, plain)


class DeedsTurnTest(HouseCase):
    def test_no_hand(self):
        for many in (2, 3, 4):
            house, plain = self.begin((5, 80), many)
            for called in (house.deeds, house.turn):
                for hand, other in itertools.product(range(many), no_hands(many)):
                    self.refused(NoHand, called, hand, other)
                    self.refused(NoHand, called, other, hand)
                for hand in tuple(range(many)) + no_hands(many):
                    self.refused(NoHand, called, hand, hand)
            self.check_house(house, plain)

    def test_marks_that_came_by_meeting_a_third_hand(self):
        house = House((5,), 4)
        for mark in (10, 11, 12):
            house.put(0, mark)
        house.put(1, 12)
        house.take(1, 5)
        house.meet(0, 1)
        # The hand 0 got nothing, the hand 1 got 5, 10 and 11; between both all begins anew.
        self.assertEqual((house.marks(0), house.marks(1)), ((5, 10, 11, 12),) * 2)
        self.assertEqual([house.deeds(0, other) for other in (1, 2, 3)], [0, 3, 3])
        self.assertEqual([house.deeds(1, other) for other in (0, 2, 3)], [0, 5, 5])
        self.assertEqual([house.deeds(2, other) for other in (0, 1, 3)], [0, 0, 0])
        self.assertEqual([house.turn(0, other) for other in (1, 2, 3)], [1, 0, 0])
        house.put(2, 96)
        house.meet(2, 1)
        self.assertEqual([house.deeds(2, other) for other in (0, 1, 3)], [4, 0, 4])
        self.assertEqual([house.deeds(1, other) for other in (0, 2, 3)], [1, 0, 6])
        self.assertEqual([house.deeds(0, other) for other in (1, 2, 3)], [0, 3, 3])
        self.assertEqual([house.turn(1, other) for other in (0, 2, 3)], [1, 1, 0])

    def test_before_and_after_meetings_and_settlings(self):
        for many in (2, 3, 4):
            house, plain = self.begin(SETS[8], many)
            for one, other in itertools.combinations(range(many), 2):
                for hand in range(many):
                    self.change(house, plain, hand, 10 * hand + other + one)
                self.meet(house, plain, one, other)
                self.change(house, plain, other, 77)
            self.settle(house, plain)
            self.change(house, plain, 0, 50)
            self.meet(house, plain, 1, 0)
            self.settle(house, plain)
            self.assertEqual(house.turn(0, 1), 4)


class LetterTest(HouseCase):
    def test_known_ones(self):
        house = House((5, 80), 3)
        self.assertEqual(house.letter(0, 1, 0), (0, 0, 2, ()))
        self.assertEqual(house.letter(2, 0, 1), (0, 0, 2, (85,)))
        house.put(0, 3)
        house.take(0, 5)
        self.assertEqual(house.letter(0, 1, 2), (0, 2, 2, (83, 7)))
        self.assertEqual(house.letter(1, 0, 0), (0, 0, 2, ()))
        house.meet(0, 2)
        self.assertEqual(house.letter(0, 1, 1), (0, 3, 3, (88,)))
        self.assertEqual(house.letter(0, 2, 1), (1, 0, 3, (88,)))

    def test_its_four_things(self):
        house, plain = self.begin(SETS[9], 4)
        self.many_deeds(house, plain, 603, 60)
        for hand, other in itertools.permutations(range(4), 2):
            for many in range(97):
                found = self.told(house.letter, hand, other, many)
                marks = house.marks(hand)
                due = (plain.turn(hand, other), plain.deeds(hand, other), len(marks), sums(marks, many))
                self.assertEqual(found, due)
                self.assertIs(is_letter(found), True)
        self.check_house(house, plain)

    def test_no_hand_and_then_no_count(self):
        for many in (2, 3, 4):
            house, plain = self.begin((5, 80), many)
            for count in (0, 3, 96) + NO_COUNTS:
                for hand in no_hands(many):
                    self.refused(NoHand, house.letter, hand, 0, count)
                    self.refused(NoHand, house.letter, 1, hand, count)
                    self.refused(NoHand, house.letter, hand, hand, count)
                for hand in range(many):
                    self.refused(NoHand, house.letter, hand, hand, count)
            for hand, other in itertools.permutations(range(many), 2):
                for count in NO_COUNTS:
                    self.refused(NoCount, house.letter, hand, other, count)
            self.check_house(house, plain)


class HearTest(HouseCase):
    def test_known_ones(self):
        house = House((5, 80), 2)
        self.assertEqual(house.hear(1, 0, house.letter(0, 1, 0)), ((), ()))
        house.put(0, 3)
        self.assertEqual(house.hear(1, 0, house.letter(0, 1, 1)), ((3,), ()))
        self.assertEqual(house.hear(0, 1, house.letter(1, 0, 1)), ((), (3,)))
        self.assertIsNone(house.hear(1, 0, house.letter(0, 1, 0)))
        house.take(0, 5)
        kept = house.letter(0, 1, 3)
        self.assertEqual(house.hear(1, 0, kept), ((3,), (5,)))
        house.take(0, 3)
        house.put(1, 96)
        house.put(1, 3)
        # Of the set that the letter told of, the hand has 3 by itself now.
        self.assertEqual(house.hear(1, 0, kept), ((), (5, 96)))

    def test_no_letter(self):
        house, plain = self.begin((5, 80), 3)
        self.put(house, plain, 0, 3)
        for thing in NO_LETTERS:
            self.refused(NoLetter, house.hear, 1, 0, thing)
            # A letter that is none may be of another turn beside.
            self.refused(NoLetter, house.hear, 0, 1, (7, 0, 97, ()))
        self.check_house(house, plain)

    def test_no_hand_goes_first(self):
        for many in (2, 3, 4):
            house, plain = self.begin((5, 80), many)
            for letter in ((0, 0, 2, ()), (1, 0, 2, ()), None, (), (0, 0, 97, ())):
                for hand in no_hands(many):
                    self.refused(NoHand, house.hear, hand, 0, letter)
                    self.refused(NoHand, house.hear, 1, hand, letter)
                    self.refused(NoHand, house.hear, hand, hand, letter)
                for hand in range(many):
                    self.refused(NoHand, house.hear, hand, hand, letter)
            self.check_house(house, plain)

    def test_letters_of_another_turn(self):
        house, plain = self.begin((5, 80), 3)
        older = [house.letter(0, 1, 4)]
        for made_alike in (lambda: self.meet(house, plain, 1, 0), lambda: self.settle(house, plain)):
            made_alike()
            turn = house.turn(0, 1)
            for letter in older + [(turn + 1, 0, 2, ()), (BIGGEST, 0, 2, ()), (turn - 1, 0, 2, sums((5, 80), 96))]:
                for hand, other in ((0, 1), (1, 0)):
                    self.refused(Late, house.hear, hand, other, letter)
            older.append(house.letter(0, 1, 4))
            self.assertEqual(house.hear(1, 0, older[-1]), ((), ()))
        self.check_house(house, plain)

    def test_another_turn_with_one_hand_alone(self):
        house, plain = self.begin((5, 80), 3)
        letters = {pair: house.letter(*pair, 2) for pair in itertools.permutations(range(3), 2)}
        self.meet(house, plain, 0, 2)
        for (hand, other), letter in letters.items():
            if {hand, other} == {0, 2}:
                self.refused(Late, house.hear, other, hand, letter)
            else:
                self.assertEqual(house.hear(other, hand, letter), ((), ()))
        self.check_house(house, plain)

    def test_letters_told_before_later_deeds_of_both(self):
        chance = random.Random(604)
        for seed, marks in enumerate(some_sets(605, 6) + [(), ALL_MARKS]):
            house, plain = self.begin(marks, 2)
            self.deeds_of(house, plain, 0, chance.sample(ALL_MARKS, seed))
            self.deeds_of(house, plain, 1, chance.sample(ALL_MARKS, 3))
            told_of = house.marks(0)
            letters = [house.letter(0, 1, many) for many in range(97)]
            for further in (0, 1, 4):
                self.deeds_of(house, plain, 0, chance.sample(ALL_MARKS, further))
                self.deeds_of(house, plain, 1, chance.sample(ALL_MARKS, further))
                bound = letters[0][1] + plain.deeds(1, 0)
                own = house.marks(1)
                together = limit_of(bound, len(told_of) - len(own)) + differ(told_of, own)
                for many, letter in list(enumerate(letters))[:together // 2 + 3] + [(96, letters[96])]:
                    found = self.told(house.hear, 1, 0, letter)
                    due = apart(own, told_of) if 2 * many >= together else None
                    self.assertEqual(found, due, (own, told_of, letter))
            self.check_house(house, plain)

    def test_many_deeds(self):
        for marks in (SETS[9], (), ALL_MARKS):
            house, plain = self.begin(marks, 2)
            for hand, times in ((0, 55), (1, 60)):
                self.deeds_of(house, plain, hand, (7, 96) * times)
                self.deeds_of(house, plain, hand, ALL_MARKS[hand + 3::9])
            self.assertGreater(house.deeds(0, 1), 96)
            for hand, other in ((0, 1), (1, 0)):
                due = apart(house.marks(hand), house.marks(other))
                many = needed(house.marks(hand), 96, house.marks(other))
                self.assertEqual(house.hear(hand, other, house.letter(other, hand, many)), due)
                self.assertEqual(house.hear(hand, other, house.letter(other, hand, 96)), due)
                self.assertIsNone(house.hear(hand, other, house.letter(other, hand, many - 1)))
            self.check_house(house, plain)

    def test_letters_that_no_hand_told(self):
        # They lead to what the bound, the count and the sums lead to.
        house, plain = self.begin((5, 80), 2)
        self.put(house, plain, 0, 7)
        for letter in ((0, 3, 4, (1, 2, 3, 4)), (0, 0, 3, (92,)), (0, BIGGEST, 96, (0,) * 95 + (96,)), (0, 5, 0, ())):
            for hand, other in ((0, 1), (1, 0)):
                _, deeds, count, told = letter
                due = led(house.marks(hand), deeds + house.deeds(hand, other), count, told)
                self.assertEqual(self.told(house.hear, hand, other, letter), due)
        self.assertEqual(house.hear(1, 0, (0, BIGGEST, 96, (0,) * 95 + (96,))), apart((5, 80), ALL_MARKS))
        self.check_house(house, plain)


class EarTest(HouseCase):
    def test_ears_hear_letters_piece_by_piece(self):
        chance = random.Random(606)
        for seed in range(10):
            house, plain = self.begin(some_sets(607 + seed, 1)[0], 3)
            self.many_deeds(house, plain, 620 + seed, 14)
            for hand, other in itertools.permutations(range(3), 2):
                bound = house.deeds(hand, other) + house.deeds(other, hand)
                least = needed(house.marks(hand), bound, house.marks(other))
                for many in {0, max(least - 1, 0), least, min(least + 2, 96)}:
                    letter = house.letter(other, hand, many)
                    pieces = list(enumerate(letter[2:3] + letter[3]))
                    ear = Ear(house.marks(hand), bound)
                    for place, number in chance.sample(pieces, len(pieces)):
                        ear.hear(place, number)
                    self.assertEqual(ear.known(), many)
                    self.assertEqual(ear.leads(), house.hear(hand, other, letter))
                    due = apart(house.marks(hand), house.marks(other)) if many >= least else None
                    self.assertEqual(ear.leads(), due)


class MeetTest(HouseCase):
    def test_known_ones(self):
        house = House((5, 80), 2)
        house.put(0, 3)
        house.take(1, 5)
        # The bound is 2, and so is the difference.
        self.assertEqual(house.meet(0, 1), 2)
        self.assertEqual((house.marks(0), house.marks(1)), ((3, 5, 80),) * 2)
        self.assertEqual((house.deeds(0, 1), house.deeds(1, 0), house.turn(0, 1)), (0, 0, 1))
        self.assertEqual(house.meet(1, 0), 0)
        self.assertEqual((house.marks(0), house.turn(1, 0)), ((3, 5, 80), 2))
        # Both take the same: alike again, but the bound is 2.
        house.take(0, 3)
        house.take(1, 3)
        self.assertEqual(house.meet(0, 1), 1)
        self.assertEqual(house.marks(1), (5, 80))

    def test_met_at_once_and_again(self):
        for marks in SETS:
            for many in (2, 3, 4):
                house, plain = self.begin(marks, many)
                for one, other in itertools.permutations(range(many), 2):
                    self.assertEqual(self.meet(house, plain, one, other), 0)
                    self.assertEqual(self.meet(house, plain, one, other), 0)

    def test_the_fewest_sums_by_which_both_are_led(self):
        # Letters with each number of sums from none on are told and heard.
        for seed in range(25):
            house, plain = self.begin(some_sets(640 + seed, 1)[0], 2 + seed % 3)
            for further in range(4):
                self.many_deeds(house, plain, 670 + 10 * seed + further, 2 + seed % 7)
                one, other = random.Random(seed + further).sample(range(2 + seed % 3), 2)
                due = next(many for many in range(97) if self.both_led(house, one, other, many))
                self.assertEqual(self.meet(house, plain, one, other), due)
                self.assertEqual(self.meet(house, plain, other, one), 0)

    def test_behind_many_deeds(self):
        for marks in (SETS[9], (), ALL_MARKS, SETS[10]):
            house, plain = self.begin(marks, 3)
            self.deeds_of(house, plain, 0, (7, 96) * 50)
            self.deeds_of(house, plain, 0, ALL_MARKS[::13])
            self.deeds_of(house, plain, 1, ALL_MARKS[1::11])
            for one, other in ((0, 1), (2, 0)):
                far = differ(house.marks(one), house.marks(other))
                self.assertTrue(self.both_led(house, one, other, 96))
                many = self.meet(house, plain, one, other)
                self.assertIn(many, ((96 + far) // 2, (95 + far) // 2))
                self.assertEqual(self.meet(house, plain, one, other), 0)

    def test_all_marks_against_none(self):
        house, plain = self.begin((), 2)
        self.deeds_of(house, plain, 0, ALL_MARKS)
        self.assertTrue(self.both_led(house, 0, 1, 96))
        self.assertFalse(self.both_led(house, 0, 1, 95))
        self.assertEqual(self.meet(house, plain, 0, 1), 96)
        self.assertEqual(house.marks(1), ALL_MARKS)

    def test_no_hand(self):
        for many in (2, 3, 4):
            house, plain = self.begin((5, 80), many)
            self.put(house, plain, 1, 7)
            for hand, other in itertools.product(range(many), no_hands(many)):
                self.refused(NoHand, house.meet, hand, other)
                self.refused(NoHand, house.meet, other, hand)
            for hand in tuple(range(many)) + no_hands(many):
                self.refused(NoHand, house.meet, hand, hand)
            self.check_house(house, plain)


class SettleTest(HouseCase):
    def test_known_ones(self):
        house = House((5, 80), 3)
        house.put(0, 3)
        house.put(1, 3)
        house.take(2, 5)
        house.put(2, 96)
        # The bounds are 2 from 0 to 1, that differ in nothing, and 3 to the hand 2, that differs in 3 marks.
        self.assertEqual(house.settle(), (3, 3, 3))
        self.assertEqual([house.marks(hand) for hand in range(3)], [(3, 5, 80)] * 3)
        self.assertEqual([house.turn(0, 1), house.turn(1, 2), house.turn(2, 0)], [1, 1, 1])
        self.assertEqual(house.settle(), (0, 0, 0))
        house.put(1, 7)
        self.assertEqual(house.settle(), (1, 1, 1))
        self.assertEqual(house.marks(1), (3, 5, 80))
        self.assertEqual(house.deeds(1, 0), 0)

    def test_hands_that_tell_unlike_many(self):
        house = House((5, 80), 4)
        house.put(0, 3)
        house.meet(0, 1)
        house.meet(2, 3)
        house.put(3, 4)
        # The hands 0 and 1 have one deed to 2 and 3; 3 has one to all; 2 has none.
        self.assertEqual(house.settle(), (2, 2, 1, 2))

    def test_more_than_half(self):
        for many in (2, 3, 4):
            house, plain = self.begin((), many)
            # Each choice of hands has a mark of its own.
            choices = list(itertools.product((False, True), repeat=many))
            for mark, choice in enumerate(choices, start=1):
                for hand in range(many):
                    if choice[hand]:
                        self.put(house, plain, hand, mark)
            self.settle(house, plain)
            due = tuple(mark for mark, choice in enumerate(choices, start=1) if 2 * sum(choice) > many)
            self.assertEqual(house.marks(0), due)

    def test_just_half_is_not_more_than_half(self):
        house = House((5,), 2)
        house.put(0, 7)
        house.take(1, 5)
        house.settle()
        self.assertEqual((house.marks(0), house.marks(1)), ((), ()))
        house = House((5,), 4)
        for hand, mark in ((0, 7), (1, 7), (1, 8), (2, 8), (3, 8)):
            house.put(hand, mark)
        house.take(2, 5)
        house.take(3, 5)
        house.settle()
        self.assertEqual([house.marks(hand) for hand in range(4)], [(8,)] * 4)

    def test_settled_at_once_and_again(self):
        for marks in SETS:
            for many in (2, 3, 4):
                house, plain = self.begin(marks, many)
                self.assertEqual(self.settle(house, plain), (0,) * many)
                self.assertEqual(self.settle(house, plain), (0,) * many)
                self.assertEqual(house.marks(many - 1), marks)

    def test_the_fewest_sums_by_which_all_others_are_led(self):
        for seed in range(25):
            many = 2 + seed % 3
            house, plain = self.begin(some_sets(900 + seed, 1)[0], many)
            for further in range(3):
                self.many_deeds(house, plain, 930 + 10 * seed + further, 2 + seed % 9)
                due = tuple(
                    next(told for told in range(97) if self.others_led(house, plain, hand, told)) for hand in range(many)
                )
                self.assertEqual(self.settle(house, plain), due)
                self.assertEqual(self.settle(house, plain), (0,) * many)

    def test_behind_many_deeds(self):
        for marks in (SETS[9], (), ALL_MARKS):
            house, plain = self.begin(marks, 4)
            for hand in range(3):
                self.deeds_of(house, plain, hand, (7, 96, 5) * 18)
                self.deeds_of(house, plain, hand, ALL_MARKS[hand::17])
            for hand in range(4):
                self.assertTrue(self.others_led(house, plain, hand, 96))
            told = self.settle(house, plain)
            self.assertTrue(all(48 <= number <= 96 for number in told[:3]), told)
            self.assertEqual(self.settle(house, plain), (0, 0, 0, 0))

    def test_ahead_of_and_behind_meetings(self):
        house, plain = self.begin((5, 80), 4)
        self.put(house, plain, 0, 7)
        self.meet(house, plain, 0, 1)
        self.settle(house, plain)
        self.assertEqual(house.marks(3), (5, 80))
        self.meet(house, plain, 2, 3)
        self.put(house, plain, 3, 9)
        self.meet(house, plain, 3, 1)
        self.meet(house, plain, 1, 0)
        self.settle(house, plain)
        self.assertEqual(house.marks(2), (5, 9, 80))


if __name__ == "__main__":
    unittest.main()
