"""Promises [1], [2] and [18], and the interface of setmend/least.py."""

import itertools
import random
import unittest

import setmend.least as module
from setmend.errors import NoCount, NoSet
from setmend.least import least
from setmend.sums import sums
from tests.helper import (
    ALL_MARKS, BIGGEST, NO_SETS, SETS, MendCase, changed, coset, differ, some_numbers, some_sets,
)

BOUNDS = (0, 1, 2, 3, 4, 5, 9, 10, 10 ** 59, BIGGEST)


def subsets(marks):
    return [chosen for many in range(len(marks) + 1) for chosen in itertools.combinations(marks, many)]


def small_sets(seed, many, most):
    """Sets of at most so many marks, the same ones in each run."""
    chance = random.Random(seed)
    return [tuple(sorted(chance.sample(ALL_MARKS, chance.randint(0, most)))) for _ in range(many)]


class InterfaceTest(MendCase):
    def test_the_name_stands_in_its_file(self):
        self.check_function(module, "least", ["marks", "bound"])


class LeastCase(MendCase):
    def check_apart(self, marks, bound, fewest):
        """No two unlike sets of as many marks, both within the bound of one set, have so many first sums alike."""
        told = {chosen: (len(chosen),) + sums(chosen, fewest) for chosen in subsets(marks)}
        for own in told:
            near = [chosen for chosen in told if differ(own, chosen) <= bound]
            self.assertEqual(len({told[chosen] for chosen in near}), len(near), (marks, bound, own))

    def check_reason(self, marks, bound, fewest, reason):
        """Three sets of the marks for which one sum less than the fewest does not do."""
        self.assertIs(type(reason), tuple)
        own, one, other = reason
        for chosen in reason:
            self.check_set(chosen)
            self.assertLessEqual(set(chosen), set(marks))
        self.assertNotEqual(one, other)
        self.assertEqual(len(one), len(other))
        self.assertLessEqual(differ(own, one), bound)
        self.assertLessEqual(differ(own, other), bound)
        self.assertEqual(sums(one, fewest - 1), sums(other, fewest - 1))

    def check(self, marks, bound):
        found = self.told(least, marks, bound)
        self.assertIs(type(found), tuple)
        fewest, reason = found
        self.assertIs(type(fewest), int)
        self.assertGreaterEqual(fewest, 0)
        self.assertLessEqual(fewest, bound)
        if fewest == 0:
            self.assertIsNone(reason)
        else:
            self.check_reason(marks, bound, fewest, reason)
        self.check_apart(marks, bound, fewest)
        return fewest


class LeastTest(LeastCase):
    def test_known_ones(self):
        self.assertEqual(least((), 0), (0, None))
        self.assertEqual(least((5,), 9), (0, None))
        self.assertEqual(least((5, 6), 0), (0, None))
        self.assertEqual(least((5, 6), 1)[0], 1)
        self.assertEqual(least((5, 6), BIGGEST)[0], 1)
        # 1 and 4 come to as much as 2 and 3: the first sum does where only one mark may differ.
        self.assertEqual(least((1, 2, 3, 4), 1)[0], 1)
        self.assertEqual(least((1, 2, 3, 4), 2)[0], 2)
        self.assertEqual(least((1, 2, 3, 4), 3)[0], 2)
        # No two pairs of these come to as much.
        self.assertEqual(least((1, 2, 4, 8), 2)[0], 1)
        # On the wheel 1 and 96 come to as much as 2 and 95.
        self.assertEqual(least((1, 2, 95, 96), 2)[0], 2)

    def test_none_and_one_mark(self):
        for marks in [()] + [(mark,) for mark in ALL_MARKS]:
            for bound in BOUNDS:
                self.assertEqual(self.told(least, marks, bound), (0, None))

    def test_a_bound_of_nought(self):
        for marks in small_sets(701, 20, 9):
            self.assertEqual(self.told(least, marks, 0), (0, None))

    def test_a_bound_of_one(self):
        for marks in small_sets(702, 12, 9):
            self.assertEqual(self.check(marks, 1), 1 if len(marks) > 1 else 0)

    def test_each_two_marks(self):
        for marks in itertools.combinations(ALL_MARKS[::5], 2):
            for bound in BOUNDS:
                self.assertEqual(self.check(marks, bound), 1 if bound else 0)

    def test_sets_of_up_to_six_marks(self):
        for marks in small_sets(703, 40, 6) + [SETS[7], SETS[8], (1, 2, 3, 94, 95, 96), (1, 2, 3, 4, 5, 6)]:
            for bound in BOUNDS:
                self.check(marks, bound)

    def test_sets_of_seven_to_nine_marks(self):
        nine = (1, 2, 3, 4, 5, 6, 7, 8, 9), (1, 2, 3, 4, 48, 93, 94, 95, 96), (88, 89, 90, 91, 92, 93, 94, 95, 96)
        drawn = [marks for marks in small_sets(704, 40, 9) if len(marks) > 6]
        for marks in nine + (nine[0][:-1], nine[0][1:8]):
            for bound in (1, 2, 3, 4, 5, BIGGEST):
                self.check(marks, bound)
        self.assertGreater(len(drawn), 5)
        for marks in drawn[:6]:
            for bound in (2, 4, 10 ** 59):
                self.check(marks, bound)

    def test_sets_that_need_as_many_sums_as_the_bound(self):
        # The marks that come to 1 by one power, and their multiples, have no sum unlike below that power.
        for power in (2, 3, 4):
            one = coset(power, 1)
            for factor in ALL_MARKS[1::9]:
                other = coset(power, factor)
                if one != other:
                    marks = tuple(sorted(one + other))
                    self.assertEqual(self.check(marks, power), power)
                    self.assertEqual(self.check(marks, power + 1), power)
                    self.assertEqual(self.check(marks, BIGGEST), power)
                    self.assertLess(self.check(marks, power - 1), power)

    def test_one_mark_more_than_such_sets(self):
        one, other = coset(4, 1), coset(4, 2)
        for mark in (3, 50, 94):
            marks = changed(one + other, (mark,))
            self.assertEqual(len(marks), 9)
            self.assertEqual(self.check(marks, 4), 4)
            self.assertEqual(self.check(marks, BIGGEST), 4)
            self.assertLess(self.check(marks, 3), 4)

    def test_word_by_word(self):
        """The fewest sums, found by trying each three sets of the marks."""
        for marks in small_sets(705, 10, 5) + [(1, 2, 3, 4, 5), (1, 2, 48, 95, 96), (1, 22, 75, 96)]:
            chosen = subsets(marks)
            for bound in (0, 1, 2, 3, 9):
                pairs = [
                    (one, other) for one, other in itertools.combinations(chosen, 2) if len(one) == len(other)
                    and any(differ(own, one) <= bound and differ(own, other) <= bound for own in chosen)
                ]
                due = next(
                    many for many in range(97) if all(sums(one, many) != sums(other, many) for one, other in pairs)
                )
                self.assertEqual(self.check(marks, bound), due)


class RefusedTest(MendCase):
    def test_no_set_is_refused_ahead_of_no_count(self):
        for wrong in NO_SETS:
            for bound in BOUNDS + (-1, -BIGGEST):
                self.refused(NoSet, least, wrong, bound)

    def test_ten_marks_and_more(self):
        wrong = [marks for marks in SETS + tuple(some_sets(706, 20)) if len(marks) > 9]
        for marks in wrong + [ALL_MARKS[:10], ALL_MARKS[5:16], ALL_MARKS[::9][:10]]:
            for bound in (0, 1, 5, BIGGEST, -1, -2, -BIGGEST):
                self.refused(NoSet, least, marks, bound)

    def test_a_bound_below_nought(self):
        for bound in [-1, -2, -97, -10 ** 59, -BIGGEST] + [number for number in some_numbers(707, 20) if number < 0]:
            for marks in ((), (5,), (5, 80), ALL_MARKS[:9]):
                self.refused(NoCount, least, marks, bound)

    def test_nine_marks_are_not_refused(self):
        for marks in (ALL_MARKS[:9], ALL_MARKS[-9:], ALL_MARKS[::12] + (96,)):
            self.assertEqual(len(marks), 9)
            self.assertEqual(least(marks, 1)[0], 1)


if __name__ == "__main__":
    unittest.main()
