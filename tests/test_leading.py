"""Promises [1], [2], [3] and [9] to [12], and the interface of setmend/leading.py."""

import itertools
import random
import unittest

import setmend.leading as leading
from setmend.errors import NoCount, NoSet
from setmend.leading import led, reach
from setmend.sets import apart, mended
from setmend.sums import sums
from tests.helper import (
    ALL_MARKS, BIGGEST, NO_COUNTS, NO_SETS, SETS, MendCase, changed, coset, differ, limit_of, needed, reach_of,
    some_numbers, some_sets,
)

EVEN = tuple(range(2, 97, 2))
ODD = tuple(range(1, 97, 2))
GREAT_BOUNDS = (96, 97, 98, 120, 10 ** 59, BIGGEST - 1, BIGGEST)


def near(own, far):
    """All sets that differ from the own one in at most so many marks."""
    for many in range(far + 1):
        for others in itertools.combinations(ALL_MARKS, many):
            yield changed(own, others)


class InterfaceTest(MendCase):
    def test_each_name_stands_in_its_file(self):
        self.check_function(leading, "reach", ["bound", "more", "many"])
        self.check_function(leading, "led", ["own", "bound", "count", "told"])


class ReachTest(MendCase):
    def check(self, bound, more, many):
        found = self.told(reach, bound, more, many)
        self.assertIs(type(found), int)
        self.assertEqual(found, reach_of(bound, more, many), (bound, more, many))

    def test_known_ones(self):
        known = {
            (0, 0, 0): 0, (0, 0, 96): 0, (0, 1, 0): -1, (0, 1, 96): -1, (0, -1, 5): -1, (0, -96, 1): 0,
            (1, 1, 0): -1, (1, 1, 1): 1, (1, -1, 96): 1, (1, 0, 0): 0, (1, 0, 5): 0,
            (2, 0, 0): -2, (2, 0, 1): 0, (2, 0, 2): 2, (2, 0, 3): 2, (2, 1, 0): -1, (2, 1, 1): 1,
            (5, -3, 3): 1, (5, -3, 4): 3, (5, -3, 5): 5, (5, -3, 6): 5, (5, 2, 3): 2,
            (95, 0, 96): 94, (96, 0, 96): 96, (96, 0, 95): 94, (96, 0, 48): 0, (96, 0, 47): -2, (96, 0, 0): -96,
            (97, 1, 96): 95, (97, 0, 96): 96, (120, 1, 96): 95, (120, 96, 0): -96, (BIGGEST, 0, 96): 96,
            (BIGGEST, -1, 96): 95, (BIGGEST, -1, 0): -95,
        }
        for (bound, more, many), due in known.items():
            self.check(bound, more, many)
            self.assertEqual(reach(bound, more, many), due, (bound, more, many))

    def test_each_more_with_each_number_of_sums(self):
        for bound in (0, 1, 2, 3, 4, 9, 50, 94, 95) + GREAT_BOUNDS:
            for more in range(-96, 97):
                for many in (0, 1, 2, 10, 47, 48, 49, 95, 96):
                    self.assertEqual(reach(bound, more, many), reach_of(bound, more, many), (bound, more, many))

    def test_each_bound(self):
        for bound in range(121):
            for more in (-96, -95, -2, -1, 0, 1, 2, 3, 95, 96):
                for many in (0, 1, 30, 60, 96):
                    self.check(bound, more, many)

    def test_each_number_of_sums(self):
        for many in range(97):
            for bound in (0, 1, 2, 7, 60, 96, BIGGEST):
                self.check(bound, 0, many)
                self.check(bound, -1, many)


class LedCase(MendCase):
    def check_told(self, own, bound, count, told):
        """What is told is None, or just what [12] lets be told; it is given back."""
        found = self.told(led, own, bound, count, told)
        if found is not None:
            self.assertIs(type(found), tuple)
            lacks, over = found
            self.check_set(lacks)
            self.check_set(over)
            other = mended(own, lacks, over)
            self.assertEqual(found, apart(own, other))
            self.assertEqual(len(other), count)
            self.assertEqual(sums(other, len(told)), told)
            self.assertLessEqual(len(lacks) + len(over), reach_of(bound, count - len(own), len(told)))
        return found

    def check(self, own, bound, other, many):
        """The count and the sums of another set lead to it if they reach; else to None or to what fits them too."""
        found = self.check_told(own, bound, len(other), sums(other, many))
        if differ(own, other) <= reach_of(bound, len(other) - len(own), many):
            self.assertEqual(found, apart(own, other), (own, bound, other, many))
        elif differ(own, other) <= bound:
            self.assertIsNone(found, (own, bound, other, many))
        return found

    def check_needed(self, own, bound, other):
        """Just as many sums as needed, more and 96 lead to the other set; one fewer and still fewer do not."""
        self.assertLessEqual(differ(own, other), bound)
        many = needed(own, bound, other)
        for enough in sorted({many, min(many + 1, 96), 96}):
            found = self.check(own, bound, other, enough)
            self.assertEqual(found, apart(own, other), (own, bound, other, enough))
        for fewer in {0, many // 2, many - 1} - {many, -1}:
            self.assertIsNone(self.check(own, bound, other, fewer), (own, bound, other, fewer))


class LedTest(LedCase):
    def test_known_ones(self):
        self.assertEqual(led((), 0, 0, ()), ((), ()))
        self.assertEqual(led((5, 80), 0, 2, ()), ((), ()))
        self.assertEqual(led((5, 80), 0, 2, (85,)), ((), ()))
        self.assertIsNone(led((5, 80), 0, 2, (84,)))
        self.assertIsNone(led((5, 80), 0, 3, (88,)))
        self.assertEqual(led((5, 80), 1, 3, (88,)), ((3,), ()))
        self.assertEqual(led((5, 80), 1, 1, (5,)), ((), (80,)))
        self.assertIsNone(led((5, 80), 1, 1, ()))
        self.assertIsNone(led((5, 80), 1, 1, (7,)))
        self.assertIsNone(led((5, 80), 1, 3, (85,)))
        self.assertIsNone(led((5, 80), 1, 3, (90,)))
        # Three marks and 80 come to 83, their squares to 9 and 95.
        self.assertEqual(led((5, 80), 2, 2, (83, 7)), ((3,), (5,)))
        self.assertIsNone(led((5, 80), 2, 2, (83,)))
        self.assertEqual(led((5, 80), 2, 2, (85,)), ((), ()))
        self.assertIsNone(led((5, 80), 2, 2, ()))

    def test_each_two_sets_of_five_marks(self):
        marks = (1, 2, 48, 95, 96)
        sets = [chosen for many in range(6) for chosen in itertools.combinations(marks, many)]
        for own in sets:
            for other in sets:
                bound = differ(own, other)
                for many in range(7):
                    self.check(own, bound, other, many)
                    self.check(own, bound + 1, other, many)
                    self.check(own, bound + 4, other, many)
                    self.check(own, max(bound - 1, 0), other, many)

    def test_as_many_marks_as_the_bound_in_fewer_and_in_more(self):
        chance = random.Random(301)
        for own in some_sets(302, 20) + [(), ALL_MARKS]:
            for far in (0, 1, 2, 3, 4, 7, 12, 20):
                other = changed(own, chance.sample(ALL_MARKS, far))
                for bound in (far, far + 1, far + 2, far + 9):
                    self.check_needed(own, bound, other)
                for bound in {max(far - 1, 0), max(far - 2, 0), far // 2, 0} - {far}:
                    for many in (0, 1, far // 2, far, far + 1, 96):
                        self.check(own, bound, other, many)

    def test_sets_by_chance(self):
        for own, other in zip(some_sets(303, 10), some_sets(304, 10)):
            far = differ(own, other)
            self.check_needed(own, far, other)
            self.check_needed(own, 96, other)
            for many in (0, 10, 50, 96):
                self.check(own, far - 5, other, many)

    def test_each_two_of_the_sets_with_96_sums(self):
        for own in SETS:
            for other in SETS:
                for bound in (96, BIGGEST):
                    self.assertEqual(led(own, bound, len(other), sums(other, 96)), apart(own, other), (own, other))

    def test_one_set_is_the_other(self):
        for own in SETS + tuple(some_sets(305, 6)):
            for bound in (0, 1, 2, 5, 40, 96, BIGGEST):
                for many in (0, 1, 2, 3, 20, 47, 48, 96):
                    found = self.check(own, bound, own, many)
                    enough = 2 * many >= limit_of(bound, 0)
                    self.assertEqual(found, ((), ()) if enough else None, (own, bound, many))

    def test_an_own_set_without_marks(self):
        for other in [(1,), (96,), (7, 8), tuple(range(3, 97, 7)), ODD, ALL_MARKS[:-1], ALL_MARKS]:
            for bound in (len(other), len(other) + 1, len(other) + 2, 96, BIGGEST):
                self.check_needed((), max(bound, len(other)), other)

    def test_another_set_without_marks(self):
        for own in [(1,), (96,), (7, 8), tuple(range(3, 97, 7)), ODD, ALL_MARKS]:
            for bound in (len(own), len(own) + 1, 96, BIGGEST):
                self.check_needed(own, bound, ())

    def test_none_of_the_own_marks_left(self):
        pairs = [((5,), (6,)), ((1, 2), (95, 96)), (ODD[:5], EVEN[:7]), (EVEN[:9], ODD[:2]), (ODD, EVEN), (EVEN, ODD)]
        for own, other in pairs:
            for bound in (differ(own, other), 96, BIGGEST):
                self.check_needed(own, bound, other)
        for own in some_sets(306, 3):
            self.check_needed(own, 96, changed(own, ALL_MARKS))

    def test_all_96_marks(self):
        for other in [ALL_MARKS[1:], ALL_MARKS[:-3], ODD, (48,), ()]:
            for bound in (differ(ALL_MARKS, other), 96, BIGGEST):
                self.check_needed(ALL_MARKS, bound, other)
                self.check_needed(other, bound, ALL_MARKS)

    def test_great_bounds_with_many_sums(self):
        chance = random.Random(307)
        for bound in GREAT_BOUNDS + (10 ** 20, 95, 94):
            for own in some_sets(308, 3):
                for far in (0, 1, 2, 9):
                    other = changed(own, chance.sample(ALL_MARKS, far))
                    self.check_needed(own, bound, other)
                    for many in (47, 48, 49, 50, 60, 95):
                        self.check(own, bound, other, many)

    def test_bounds_beyond_96_lead_as_96_does(self):
        chance = random.Random(309)
        for own in some_sets(310, 4):
            other = changed(own, chance.sample(ALL_MARKS, 8))
            for many in (0, 40, 51, 52, 53, 96):
                told = sums(other, many)
                for bound in (97, 98, 120, BIGGEST):
                    self.assertEqual(led(own, bound, len(other), told), led(own, 96, len(other), told))

    def test_a_list_of_sums_that_grows(self):
        # None is told up to the fewest sums that do, and the same set from there on.
        for own, other in zip(some_sets(311, 4), some_sets(312, 4)):
            small = changed(own, other[:11])
            for bound in (11, 14, 40):
                many = needed(own, bound, small)
                for at in range(min(many + 3, 96) + 1):
                    due = apart(own, small) if at >= many else None
                    self.assertEqual(led(own, bound, len(small), sums(small, at)), due, (own, bound, small, at))


class NeverAnythingElseTest(LedCase):
    """Counts and sums that may be those of no set, or of one out of reach."""

    def test_every_two_sums_against_all_sets_in_reach(self):
        for own in ((), (5, 17, 33, 80), ALL_MARKS[2:]):
            fitting = {(len(other), sums(other, 2)): other for other in near(own, 2)}
            # No two sets in reach have the same count and sums.
            self.assertEqual(len(fitting), 1 + 96 + 96 * 95 // 2)
            for count in range(max(len(own) - 3, 0), min(len(own) + 3, 96) + 1):
                far = 1 if (count - len(own)) % 2 else 2
                for told in itertools.product(range(97), repeat=2):
                    other = fitting.get((count, told))
                    due = None
                    if other is not None and differ(own, other) <= far:
                        due = apart(own, other)
                    self.assertEqual(led(own, 2, count, told), due, (own, count, told))

    def test_every_sum_against_all_sets_in_reach(self):
        for own in SETS:
            for bound in (0, 1, 2, 3):
                for count in range(max(len(own) - 4, 0), min(len(own) + 4, 96) + 1):
                    far = reach_of(bound, count - len(own), 1)
                    self.assertLessEqual(far, 1)
                    fitting = {(len(other), sums(other, 1)): other for other in near(own, far)}
                    for told in range(97):
                        other = fitting.get((count, (told,)))
                        due = None if other is None else apart(own, other)
                        self.assertEqual(led(own, bound, count, (told,)), due, (own, bound, count, told))

    def test_no_sums_lead_to_no_other_set(self):
        for own in SETS:
            for count in range(97):
                for bound in (0, 1, 2, 96):
                    due = ((), ()) if count == len(own) and bound <= 1 else None
                    self.assertEqual(led(own, bound, count, ()), due, (own, bound, count))

    def test_any_counts_and_sums(self):
        chance = random.Random(321)
        for own in SETS + tuple(some_sets(322, 10)):
            for many in (1, 2, 3, 5, 12, 40):
                for bound in (0, 1, 2, 4, many, many + 1, 96):
                    count = max(0, min(96, len(own) + chance.randint(-3, 3)))
                    self.check_told(own, bound, count, tuple(chance.randrange(97) for _ in range(many)))
                    self.check_told(own, bound, chance.randint(0, 96), tuple(chance.randrange(97) for _ in range(many)))

    def test_any_96_sums(self):
        chance = random.Random(323)
        for own in ((), ODD, ALL_MARKS, (5, 17, 33, 80)):
            for bound in (3, 30, 96, BIGGEST):
                for count in (len(own), chance.randint(0, 96)):
                    told = tuple(chance.randrange(97) for _ in range(96))
                    # Ninety-six sums of a set tell it whole: these are, but for a wonder, of none.
                    self.assertIsNone(self.check_told(own, bound, count, told))

    def test_another_count_than_the_sums_tell(self):
        chance = random.Random(324)
        for own in some_sets(325, 8):
            other = changed(own, chance.sample(ALL_MARKS, 4))
            for many in (4, 5, 9, 50, 96):
                for count in {0, len(other) - 2, len(other) - 1, len(other) + 1, len(other) + 2, 96} & set(range(97)):
                    found = self.check_told(own, 6, count, sums(other, many))
                    # More sums than marks in which two sets can differ here are never alike, whatever the counts.
                    if count != len(other) and many > 10:
                        self.assertIsNone(found)

    def test_one_sum_spoilt(self):
        chance = random.Random(326)
        for own in some_sets(327, 8):
            other = changed(own, chance.sample(ALL_MARKS, 3))
            for many in (5, 8, 20, 96):
                told = list(sums(other, many))
                at = chance.randrange(many)
                told[at] = (told[at] + chance.randint(1, 96)) % 97
                found = self.check_told(own, 5, len(other), tuple(told))
                self.assertNotEqual(found, apart(own, other))

    def test_marks_twice_or_none_are_not_told(self):
        # The sums tell of the mark 40 twice, of an own mark once more, of a 0, and of a mark gone that isn't there.
        own = (5, 17, 33, 80)
        wrong = (((40, 40), ()), ((5,), ()), ((0,), ()), ((), (40,)), ((), (5, 5)), ((0,), (5,)), ((40,), (0,)))
        for come, gone in wrong:
            count = len(own) + len(come) - len(gone)
            whole = [sum(mark ** k for mark in own + come) - sum(mark ** k for mark in gone) for k in range(1, 11)]
            for bound in (len(come) + len(gone), 4, 5):
                for many in (bound, bound + 3):
                    told = tuple(number % 97 for number in whole[:many])
                    self.assertIsNone(self.check_told(own, bound, count, told), (come, gone))

    def test_rows_without_noughts_are_not_told(self):
        # Two marks that come to 0, and their squares to 10, would each have the square 5: no mark has.
        self.assertNotIn(5, [mark * mark % 97 for mark in ALL_MARKS])
        self.assertIsNone(self.check_told((), 2, 2, (0, 10)))
        self.assertIsNone(self.check_told((1, 96), 2, 0, (0, 10)))

    def test_two_sets_whose_first_sums_are_alike(self):
        for power in (2, 3, 4, 6, 8, 12, 16, 24, 32, 48):
            one = coset(power, 1)
            other = next(found for found in (coset(power, factor) for factor in ALL_MARKS) if found != one)
            self.assertEqual(sums(one, power - 1), sums(other, power - 1))
            self.assertNotEqual(sums(one, power), sums(other, power))
            self.check_needed(one, 2 * power, other)
            self.check_needed(other, 96, one)
            for many in (power - 2, power - 1, power):
                # As far as these sums tell, the one set may itself be the other.
                for bound in (0, many, 2 * many, 2 * many + 1):
                    found = self.check(one, bound, other, many)
                    self.assertEqual(found, ((), ()) if many < power else None)

    def test_two_sets_that_a_third_one_lies_between(self):
        # Both are in as many marks from the third one: sums that are alike must lead it to neither of both.
        for power in (3, 4, 6, 8):
            one = coset(power, 1)
            other = next(found for found in (coset(power, factor) for factor in ALL_MARKS) if found != one)
            half = power // 2
            between = tuple(sorted(one[:half] + other[:power - half]))
            for bound in range(0, 2 * power + 3):
                found = self.check(between, bound, one, power - 1)
                self.assertEqual(found, self.check(between, bound, other, power - 1))
            self.check_needed(between, 2 * power, one)
            self.check_needed(between, 2 * power, other)


class RefusedTest(MendCase):
    def test_a_bound_below_nought(self):
        numbers = [number for number in some_numbers(341, 40) if number < 0]
        for bound in [-1, -2, -96, -BIGGEST] + numbers:
            for own in ((), (5, 80), ALL_MARKS):
                self.refused(NoCount, led, own, bound, len(own), sums(own, 3))
                self.refused(NoCount, led, own, bound, len(own), ())

    def test_a_count_that_is_not_from_0_to_96(self):
        for count in NO_COUNTS + tuple(number for number in some_numbers(342, 40) if not 0 <= number <= 96):
            for own in ((), (5, 80), ALL_MARKS):
                self.refused(NoCount, led, own, 3, count, sums(own, 3))
                self.refused(NoCount, led, own, 0, count, ())
                self.refused(NoCount, led, own, BIGGEST, count, sums(own, 96))

    def test_a_sum_that_is_not_from_0_to_96(self):
        told = sums((5, 80), 5)
        for number in NO_COUNTS + tuple(number for number in some_numbers(343, 40) if not 0 <= number <= 96):
            for at in range(5):
                self.refused(NoCount, led, (5, 80), 5, 2, told[:at] + (number,) + told[at + 1:])
            self.refused(NoCount, led, (5, 80), 0, 2, (number,))
            self.refused(NoCount, led, (5, 80), 0, 50, (number,))
            self.refused(NoCount, led, (), 96, 96, (0,) * 95 + (number,))

    def test_sums_that_would_do_on_the_wheel(self):
        told = sums((3, 5, 80), 3)
        self.assertEqual(led((5, 80), 3, 3, told), ((3,), ()))
        for at in range(3):
            for off in (97, -97, 97 * 10 ** 50):
                self.refused(NoCount, led, (5, 80), 3, 3, told[:at] + (told[at] + off,) + told[at + 1:])

    def test_more_than_96_sums(self):
        for own in ((), (5, 80), ALL_MARKS):
            most = sums(own, 96)
            for bound in (0, 2, 96, BIGGEST):
                self.assertEqual(led(own, bound, len(own), most), ((), ()))
                self.refused(NoCount, led, own, bound, len(own), most + sums(own, 1))
                self.refused(NoCount, led, own, bound, len(own), (most * 3)[:200])

    def test_no_set_is_refused_ahead_of_no_count(self):
        for wrong in NO_SETS:
            self.refused(NoSet, led, wrong, 2, 3, (1, 2, 3))
            self.refused(NoSet, led, wrong, 0, 0, ())
            self.refused(NoSet, led, wrong, -1, 3, (1, 2, 3))
            self.refused(NoSet, led, wrong, 2, 97, (1, 2, 3))
            self.refused(NoSet, led, wrong, 2, -1, (1, 2, 3))
            self.refused(NoSet, led, wrong, 2, 3, (1, 97, 3))
            self.refused(NoSet, led, wrong, 2, 3, (0,) * 97)
            self.refused(NoSet, led, wrong, -BIGGEST, BIGGEST, (-1,) * 97)

    def test_the_edges_are_not_refused(self):
        self.assertIsNone(led((), 0, 96, (96,) * 96))
        self.assertIsNone(led(ALL_MARKS, 0, 0, (0,) * 96))
        self.assertEqual(led(ALL_MARKS, 96, 0, (0,) * 96), ((), ALL_MARKS))
        self.assertEqual(led((), 96, 96, (0,) * 95 + (96,)), (ALL_MARKS, ()))


if __name__ == "__main__":
    unittest.main()
