"""Promises [1], [2], [6], [7] and the last sentence of [3], and the interface of setmend/sums.py."""

import itertools
import unittest

import setmend.sums as module
from setmend.errors import NoCount, NoSet
from setmend.rows import row_of
from setmend.sums import row_by, sums
from tests.helper import (
    ALL_MARKS, BIGGEST, NO_COUNTS, NO_SETS, SETS, MendCase, changed, multiplied, some_numbers, some_sets,
)

# Besides these, as many sums as a set has marks, one fewer and one more are asked for.
MANY = (0, 1, 2, 3, 7, 48, 95, 96)


def power_sums(marks, many):
    """[6]'s sentence: sum k is that of the marks to the power k, on the wheel."""
    return tuple(sum(mark ** k for mark in marks) % 97 for k in range(1, many + 1))


class InterfaceTest(MendCase):
    def test_each_name_stands_in_its_file(self):
        self.check_function(module, "sums", ["marks", "many"])
        self.check_function(module, "row_by", ["told"])


class SumsTest(MendCase):
    def check(self, marks, many):
        found = self.told(sums, marks, many)
        self.check_numbers(found, 0, 96)
        self.assertEqual(len(found), many)
        self.assertEqual(found, power_sums(marks, many), (marks, many))

    def test_known_ones(self):
        self.assertEqual(sums((), 3), (0, 0, 0))
        self.assertEqual(sums((1,), 3), (1, 1, 1))
        self.assertEqual(sums((96,), 4), (96, 1, 96, 1))
        self.assertEqual(sums((1, 2), 4), (3, 5, 9, 17))
        self.assertEqual(sums((10,), 3), (10, 3, 30))
        self.assertEqual(sums((1, 96), 4), (0, 2, 0, 2))
        self.assertEqual(sums(ALL_MARKS, 96), (0,) * 95 + (96,))
        self.assertEqual(sums(ALL_MARKS, 0), ())
        self.assertEqual(sums((), 0), ())
        self.assertEqual(sums((), 96), (0,) * 96)

    def test_each_mark_alone(self):
        for mark in ALL_MARKS:
            self.check((mark,), 96)
            self.assertEqual(sums((mark,), 96)[-1], 1)

    def test_sets(self):
        for marks in SETS + tuple(some_sets(101, 30)):
            for many in MANY:
                self.check(marks, many)

    def test_each_number_of_sums(self):
        for many in range(97):
            self.check((5, 17, 33, 80), many)
            self.check(ALL_MARKS, many)

    def test_fewer_sums_are_the_beginning_of_more(self):
        for marks in SETS + tuple(some_sets(102, 10)):
            most = sums(marks, 96)
            for many in range(97):
                self.assertEqual(sums(marks, many), most[:many])

    def test_no_count_is_refused(self):
        for many in NO_COUNTS + tuple(number for number in some_numbers(103, 60) if not 0 <= number <= 96):
            for marks in ((), (5, 80), ALL_MARKS):
                self.refused(NoCount, sums, marks, many)

    def test_no_set_is_refused_ahead_of_no_count(self):
        for wrong in NO_SETS:
            for many in (0, 1, 96) + NO_COUNTS:
                self.refused(NoSet, sums, wrong, many)


class AlikeTest(MendCase):
    """[3]'s last sentence: sets with alike sums differ in twice as many marks and two more."""

    def check(self, one, other):
        self.assertNotEqual(one, other)
        differ = len(set(one) ^ set(other))
        alike = 0
        while alike < 96 and sums(one, alike + 1) == sums(other, alike + 1):
            alike += 1
        self.assertGreaterEqual(differ, 2 * alike + 2, (one, other))
        return alike

    def test_sets_of_few_marks(self):
        for marks in ((1, 2, 3, 4, 5, 6, 7), (1, 22, 75, 96, 35, 36, 61, 62), (1, 5, 25, 28, 43, 64, 95)):
            for many in range(1, len(marks)):
                sets = [tuple(sorted(chosen)) for chosen in itertools.combinations(marks, many)]
                for one, other in itertools.combinations(sets, 2):
                    self.check(one, other)

    def test_sets_for_which_no_fewer_marks_do(self):
        # The marks that come to 1 by one power, and their multiples: no sum below that power tells them apart.
        for power in (2, 3, 4, 6, 8, 12, 16, 24, 32, 48):
            ones = tuple(mark for mark in ALL_MARKS if mark ** power % 97 == 1)
            self.assertEqual(len(ones), power)
            factor = next(mark for mark in ALL_MARKS if mark not in ones)
            others = tuple(sorted(mark * factor % 97 for mark in ones))
            self.assertEqual(self.check(ones, others), power - 1)


class RowByTest(MendCase):
    def check(self, told):
        """[7]'s first sentence, number by number."""
        row = self.told(row_by, told)
        self.check_numbers(row, 0, 96)
        self.assertEqual(len(row), len(told) + 1)
        self.assertEqual(row[0], 1)
        for k in range(1, len(told) + 1):
            total = k * row[k] + sum(told[at - 1] * row[k - at] for at in range(1, k + 1))
            self.assertEqual(total % 97, 0, (told, k))
        return row

    def test_known_ones(self):
        self.assertEqual(row_by(()), (1,))
        self.assertEqual(row_by((0,)), (1, 0))
        self.assertEqual(row_by((5,)), (1, 92))
        self.assertEqual(row_by((-5,)), (1, 5))
        self.assertEqual(row_by((3, 5)), (1, 94, 2))
        self.assertEqual(row_by((3, 5, 9, 17)), (1, 94, 2, 0, 0))
        self.assertEqual(row_by((0,) * 95 + (96,)), (1,) + (0,) * 95 + (96,))

    def test_of_no_numbers(self):
        self.assertEqual(self.check(()), (1,))

    def test_any_numbers(self):
        for many in (1, 2, 3, 4, 10, 47, 95, 96):
            for seed in range(4):
                self.check(tuple(some_numbers(110 + 10 * many + seed, many)))
        for number in (0, 1, -1, 96, 97, -97, BIGGEST, -BIGGEST):
            self.check((number,))
            self.check((number,) * 96)

    def test_numbers_count_by_their_rests_alone(self):
        for many in (1, 5, 96):
            told = tuple(some_numbers(120 + many, many))
            self.assertEqual(row_by(told), row_by(tuple(number % 97 for number in told)))

    def test_sums_as_many_as_marks_or_more(self):
        for marks in SETS + tuple(some_sets(121, 20)):
            for many in sorted({len(marks), min(len(marks) + 1, 96), min(len(marks) + 9, 96), 96}):
                row = self.check(sums(marks, many))
                self.assertEqual(row, row_of(marks) + (0,) * (many - len(marks)))

    def test_sums_fewer_than_marks(self):
        for marks in SETS + tuple(some_sets(122, 20)):
            for many in (0, 1, 2, 5, 30, len(marks) - 1):
                if 0 <= many < len(marks):
                    self.assertEqual(self.check(sums(marks, many)), row_of(marks)[:many + 1])

    def check_differences(self, one, other, many):
        of_one, of_other = sums(one, many), sums(other, many)
        as_they_are = tuple(more - less for more, less in zip(of_other, of_one))
        on_the_wheel = tuple(number % 97 for number in as_they_are)
        row = self.check(as_they_are)
        self.assertEqual(self.check(on_the_wheel), row)
        wide_one, wide_other = row_of(one) + (0,) * many, row_of(other) + (0,) * many
        both = tuple(number % 97 for number in multiplied(row, wide_one))
        self.assertEqual(both[:many + 1], wide_other[:many + 1], (one, other, many))

    def test_differences_of_two_sets_sums(self):
        for one in SETS:
            for other in SETS:
                for many in (0, 1, 6):
                    self.check_differences(one, other, many)
        for one, other in zip(some_sets(123, 12), some_sets(124, 12)):
            for many in (2, 20, 96):
                self.check_differences(one, other, many)

    def test_differences_of_sets_that_differ_by_little(self):
        for own in some_sets(125, 10):
            for marks in ((1,), (96,), (3, 50), (1, 2, 95, 96)):
                for many in (1, 4, 50):
                    self.check_differences(own, changed(own, marks), many)

    def test_more_than_96_numbers_are_refused(self):
        for many in (97, 98, 150, 200):
            for number in (0, 1, -1, BIGGEST):
                self.refused(NoCount, row_by, (number,) * many)


if __name__ == "__main__":
    unittest.main()
