"""Promises [1], [2] and [4], and the interface of setmend/sets.py."""

import unittest

import setmend.sets as sets
from setmend.errors import NoSet
from setmend.sets import apart, is_set, mended
from tests.helper import ALL_MARKS, NO_SETS, SETS, MendCase, some_numbers, some_sets


class InterfaceTest(MendCase):
    def test_each_name_stands_in_its_file(self):
        self.check_function(sets, "is_set", ["marks"])
        self.check_function(sets, "apart", ["one", "other"])
        self.check_function(sets, "mended", ["own", "lacks", "over"])


class IsSetTest(MendCase):
    def test_true_of_sets(self):
        for marks in SETS + tuple(some_sets(1, 50)):
            self.assertIs(self.told(is_set, marks), True, marks)

    def test_true_of_each_mark_alone(self):
        for mark in ALL_MARKS:
            self.assertIs(is_set((mark,)), True, mark)

    def test_false_of_what_is_no_set(self):
        for marks in NO_SETS:
            self.assertIs(self.told(is_set, marks), False, marks)

    def test_false_of_numbers_of_many_figures(self):
        for number in some_numbers(2, 200):
            if not 1 <= number <= 96:
                self.assertIs(self.told(is_set, (number,)), False, number)
                self.assertIs(self.told(is_set, tuple(sorted((number, 50)))), False, number)

    def test_false_of_each_pair_that_does_not_rise(self):
        for mark in ALL_MARKS:
            for other in range(1, mark + 1):
                self.assertIs(is_set((mark, other)), False, (mark, other))


class ApartTest(MendCase):
    def check(self, one, other):
        pair = self.told(apart, one, other)
        self.assertIs(type(pair), tuple)
        lacks, over = pair
        self.check_set(lacks)
        self.check_set(over)
        self.assertEqual(set(lacks), set(other) - set(one))
        self.assertEqual(set(over), set(one) - set(other))
        self.assertEqual(self.told(mended, one, lacks, over), other)
        self.assertEqual(self.told(mended, other, over, lacks), one)

    def test_what_is_due_word_by_word(self):
        self.assertEqual(apart((1, 2, 3), (2, 3, 4, 5)), ((4, 5), (1,)))
        self.assertEqual(apart((2, 3, 4, 5), (1, 2, 3)), ((1,), (4, 5)))
        self.assertEqual(apart((), (7, 96)), ((7, 96), ()))
        self.assertEqual(apart((7, 96), ()), ((), (7, 96)))
        self.assertEqual(apart((7, 96), (7, 96)), ((), ()))
        self.assertEqual(apart((), ()), ((), ()))
        self.assertEqual(apart((), ALL_MARKS), (ALL_MARKS, ()))

    def test_each_two_of_the_sets(self):
        for one in SETS:
            for other in SETS:
                self.check(one, other)

    def test_sets_by_chance(self):
        for one, other in zip(some_sets(3, 60), some_sets(4, 60)):
            self.check(one, other)

    def test_sets_that_differ_by_little(self):
        for own in some_sets(5, 30):
            for mark in (1, 48, 96):
                self.check(own, tuple(sorted(set(own) ^ {mark})))

    def test_no_set_is_refused_at_each_place(self):
        for wrong in NO_SETS:
            for right in ((), (5,), ALL_MARKS):
                self.refused(NoSet, apart, wrong, right)
                self.refused(NoSet, apart, right, wrong)
            self.refused(NoSet, apart, wrong, wrong)


class MendedTest(MendCase):
    def check(self, own, lacks, over):
        marks = self.told(mended, own, lacks, over)
        self.check_set(marks)
        self.assertEqual(set(marks), set(lacks) | (set(own) - set(over)))

    def test_what_is_due_word_by_word(self):
        self.assertEqual(mended((1, 2, 3), (4, 5), (1,)), (2, 3, 4, 5))
        self.assertEqual(mended((1, 2, 3), (), ()), (1, 2, 3))
        self.assertEqual(mended((), (), ()), ())
        self.assertEqual(mended((), ALL_MARKS, ()), ALL_MARKS)
        self.assertEqual(mended(ALL_MARKS, (), ALL_MARKS), ())

    def test_lacks_with_marks_that_own_has(self):
        self.assertEqual(mended((1, 2), (2, 3), ()), (1, 2, 3))

    def test_over_with_marks_that_own_has_not(self):
        self.assertEqual(mended((1, 2), (), (2, 3)), (1,))

    def test_lacks_and_over_that_share_marks(self):
        self.assertEqual(mended((1, 2), (2,), (2,)), (1, 2))
        self.assertEqual(mended((1, 2), (3,), (3,)), (1, 2, 3))
        self.assertEqual(mended((9,), ALL_MARKS, ALL_MARKS), ALL_MARKS)

    def test_each_three_of_the_sets(self):
        for own in SETS:
            for lacks in SETS:
                for over in SETS:
                    self.check(own, lacks, over)

    def test_sets_by_chance(self):
        for own, lacks, over in zip(some_sets(6, 100), some_sets(7, 100), some_sets(8, 100)):
            self.check(own, lacks, over)

    def test_no_set_is_refused_at_each_place(self):
        for wrong in NO_SETS:
            for right in ((), (5,), ALL_MARKS):
                self.refused(NoSet, mended, wrong, right, right)
                self.refused(NoSet, mended, right, wrong, right)
                self.refused(NoSet, mended, right, right, wrong)
                self.refused(NoSet, mended, wrong, wrong, right)
                self.refused(NoSet, mended, right, wrong, wrong)
            self.refused(NoSet, mended, wrong, wrong, wrong)


if __name__ == "__main__":
    unittest.main()
