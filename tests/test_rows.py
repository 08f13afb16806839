"""Promises [1], [2] and [5], and the interface of setmend/rows.py."""

import random
import unittest

import setmend.rows as rows
from setmend.errors import NoInverse, NoSet
from setmend.rows import inverse, noughts, row_of, worth
from tests.helper import ALL_MARKS, BIGGEST, NO_SETS, SETS, MendCase, multiplied, some_numbers, some_sets


def power_by_power(row, x):
    """[5]'s sentence: the first number times the highest power of x, and so on, the last one alone."""
    highest = len(row) - 1
    return sum(number * x ** (highest - place) for place, number in enumerate(row)) % 97


def some_rows(seed):
    """Rows of none to 200 numbers of one to sixty figures, above and below nought."""
    lengths = (0, 1, 1, 2, 3, 4, 7, 50, 97, 98, 200)
    return [tuple(some_numbers(seed + at, many)) for at, many in enumerate(lengths)]


class InterfaceTest(MendCase):
    def test_each_name_stands_in_its_file(self):
        self.check_function(rows, "inverse", ["number"])
        self.check_function(rows, "worth", ["row", "x"])
        self.check_function(rows, "row_of", ["marks"])
        self.check_function(rows, "noughts", ["row"])


class InverseTest(MendCase):
    def check(self, number):
        found = self.told(inverse, number)
        self.check_numbers((found,), 1, 96)
        self.assertEqual(number * found % 97, 1, number)

    def test_each_number_of_the_wheel(self):
        for number in range(1, 97):
            self.check(number)

    def test_known_ones(self):
        known = {1: 1, -1: 96, 96: 96, 98: 1, 2: 49, 49: 2, -2: 48, 3: 65, 97 + 2: 49}
        for number, found in known.items():
            self.assertEqual(inverse(number), found, number)

    def test_numbers_of_many_figures(self):
        for number in some_numbers(11, 300) + [BIGGEST, -BIGGEST, 10 ** 59, -10 ** 59]:
            if number % 97:
                self.check(number)

    def test_what_comes_to_nought_has_none(self):
        for number in (0, 97, -97, 194, -194, 97 * 97, 97 * 10 ** 57, -97 * 10 ** 57):
            self.refused(NoInverse, inverse, number)
        for number in some_numbers(12, 100):
            self.refused(NoInverse, inverse, number - number % 97)


class WorthTest(MendCase):
    def check(self, row, x):
        found = self.told(worth, row, x)
        self.check_numbers((found,), 0, 96)
        self.assertEqual(found, power_by_power(row, x), (row, x))

    def test_a_row_of_no_numbers_is_worth_nought(self):
        for x in (0, 1, 5, 96, 97, -1, BIGGEST, -BIGGEST):
            self.assertEqual(self.told(worth, (), x), 0)
            self.check_numbers((worth((), x),), 0, 0)

    def test_known_ones(self):
        self.assertEqual(worth((5,), 12), 5)
        self.assertEqual(worth((97,), 12), 0)
        self.assertEqual(worth((-1,), 12), 96)
        self.assertEqual(worth((1, 0), 12), 12)
        self.assertEqual(worth((1, 0), -1), 96)
        self.assertEqual(worth((1, 2, 3), 10), 123 - 97)
        self.assertEqual(worth((3, 2, 1), 10), 321 - 3 * 97)
        self.assertEqual(worth((4, 5, 6), 0), 6)
        self.assertEqual(worth((4, 5, 6), 97), 6)
        self.assertEqual(worth((0, 0, 1, 0), 96), 96)

    def test_rows_at_whole_numbers(self):
        places = [0, 1, -1, 2, 48, 96, 97, 98, -96, -97, BIGGEST, -BIGGEST] + some_numbers(21, 6)
        for row in some_rows(30):
            for x in places:
                self.check(row, x)

    def test_biggest_rows(self):
        for x in (BIGGEST, -BIGGEST, 1, 96):
            self.check((BIGGEST,) * 200, x)
            self.check((-BIGGEST,) * 200, x)


class RowOfTest(MendCase):
    def check(self, marks):
        row = self.told(row_of, marks)
        self.check_numbers(row, 0, 96)
        self.assertEqual(len(row), len(marks) + 1)
        self.assertEqual(row[0], 1)
        due = tuple(mark for mark in ALL_MARKS if power_by_power(row, mark) == 0)
        self.assertEqual(due, marks)
        self.assertEqual(self.told(noughts, row), marks)

    def test_known_ones(self):
        self.assertEqual(row_of(()), (1,))
        self.assertEqual(row_of((1,)), (1, 96))
        self.assertEqual(row_of((96,)), (1, 1))
        self.assertEqual(row_of((1, 2)), (1, 94, 2))
        self.assertEqual(row_of((1, 96)), (1, 0, 96))
        self.assertEqual(row_of(ALL_MARKS), (1,) + (0,) * 95 + (96,))

    def test_each_mark_alone(self):
        for mark in ALL_MARKS:
            self.assertEqual(row_of((mark,)), (1, 97 - mark))

    def test_neighbours_and_even_steps(self):
        for step in (1, 2, 3, 5, 24, 48):
            for many in (2, 3, 4, 10):
                self.check(ALL_MARKS[::step][:many])
                self.check(ALL_MARKS[1::step][:many])

    def test_sets(self):
        for marks in SETS + tuple(some_sets(41, 40)):
            self.check(marks)

    def test_no_set_is_refused(self):
        for wrong in NO_SETS:
            self.refused(NoSet, row_of, wrong)


class NoughtsTest(MendCase):
    def check(self, row):
        found = self.told(noughts, row)
        self.check_set(found)
        self.assertEqual(found, tuple(mark for mark in ALL_MARKS if power_by_power(row, mark) == 0))

    def test_rows_that_are_nought_everywhere(self):
        for row in ((), (0,), (0, 0, 0), (97,), (-97, 97 * 10 ** 57), (0,) * 200):
            self.assertEqual(self.told(noughts, row), ALL_MARKS)

    def test_nought_everywhere_without_noughts_alone(self):
        self.assertEqual(noughts((1,) + (0,) * 95 + (-1,)), ALL_MARKS)

    def test_rows_without_noughts(self):
        self.assertEqual(noughts((1,)), ())
        self.assertEqual(noughts((1, 0)), ())
        self.assertEqual(noughts((BIGGEST // 97 * 97 + 1,)), ())

    def test_known_ones(self):
        self.assertEqual(noughts((1, 0, -1)), (1, 96))
        self.assertEqual(noughts((1, -2, 1)), (1,))
        self.assertEqual(noughts((1, -3, 2)), (1, 2))

    def test_rows_of_numbers(self):
        for row in some_rows(50):
            self.check(row)
        for row in ((BIGGEST,) * 200, (-BIGGEST,) * 199, (BIGGEST, -BIGGEST), (1,) * 97):
            self.check(row)

    def test_a_row_of_a_set_multiplied_and_with_noughts_ahead(self):
        for marks in SETS + tuple(some_sets(51, 10)):
            row = row_of(marks)
            for factor in (1, -1, 2, 96, 98, 97 * 10 ** 56 + 5, -97 * 10 ** 56 - 5):
                grown = (0,) * 3 + tuple(number * factor for number in row)
                self.assertEqual(self.told(noughts, grown), marks)

    def test_a_row_of_a_set_multiplied_by_another_row(self):
        chance = random.Random(52)
        for one, other in zip(some_sets(53, 25), some_sets(54, 25)):
            both = multiplied(row_of(one), row_of(other))
            self.assertEqual(self.told(noughts, both), tuple(sorted(set(one) | set(other))))
            further = tuple(chance.randrange(-10 ** 50, 10 ** 50) for _ in range(9))
            self.check(multiplied(row_of(one), further))
            self.assertTrue(set(one) <= set(noughts(multiplied(row_of(one), further))))


if __name__ == "__main__":
    unittest.main()
