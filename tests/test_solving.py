"""Promises [1] and [8], and the interface of setmend/solving.py."""

import itertools
import random
import unittest

import setmend.solving as solving
from setmend.solving import solved
from tests.helper import BIGGEST, MendCase, some_numbers


def end_of(row, numbers):
    return sum(number * unknown for number, unknown in zip(row, numbers))


def choices(many, rows, ends):
    """Each choice of numbers on the wheel for which all equations hold."""
    return [
        numbers
        for numbers in itertools.product(range(97), repeat=many)
        if all((end_of(row, numbers) - end) % 97 == 0 for row, end in zip(rows, ends))
    ]


class Planted:
    """Equations with just one choice: as many as unknown numbers, each one needed."""

    def __init__(self, seed, many):
        self.chance = random.Random(seed)
        self.many = many
        self.numbers = tuple(self.chance.randrange(97) for _ in range(many))
        # Below a shuffled staircase each row has something that those after it have not.
        stairs = [
            [0] * at + [self.chance.randrange(1, 97)] + [self.chance.randrange(97) for _ in range(at + 1, many)]
            for at in range(many)
        ]
        order = self.chance.sample(range(many), many)
        self.rows = [tuple(row[place] for place in order) for row in stairs]
        for at in range(many):
            self.rows[at] = self.mixed(self.rows[at:], 1)
        self.chance.shuffle(self.rows)

    def mixed(self, rows, first=None):
        """The rows multiplied and added, the first one by a given number or by any."""
        factors = [self.chance.randrange(97) for _ in rows]
        if first is not None:
            factors[0] = first
        columns = range(self.many)
        return tuple(sum(factor * row[at] for factor, row in zip(factors, rows)) % 97 for at in columns)

    def ends(self, rows):
        return [end_of(row, self.numbers) % 97 for row in rows]

    def shuffled(self, rows):
        return self.chance.sample(rows, len(rows))


def far_off(seed, rows, ends):
    """The same equations on the wheel, in numbers of up to sixty figures, above and below nought."""
    chance = random.Random(seed)

    def moved(number):
        return number % 97 + 97 * chance.choice((-1, 1)) * chance.randrange(10 ** chance.randint(1, 58))

    return [tuple(moved(number) for number in row) for row in rows], [moved(end) for end in ends]


class InterfaceTest(MendCase):
    def test_the_name_stands_in_its_file(self):
        self.check_function(solving, "solved", ["many", "rows", "ends"])


class SolvedTest(MendCase):
    def check(self, many, rows, ends, due):
        found = self.told(solved, many, rows, ends)
        if due is not None:
            self.check_numbers(found, 0, 96)
            self.assertEqual(len(found), many)
        self.assertEqual(found, due, (many, rows, ends))

    def test_no_unknown_numbers(self):
        self.check(0, [], [], ())
        for ends in ([0], [97], [-97], [0, 97, -194], [97 * 10 ** 57], [0] * 30):
            self.check(0, [()] * len(ends), ends, ())
        for ends in ([1], [-1], [96], [98], [0, 5], [5, 0], [0, 0, 1], [BIGGEST], [97 * 10 ** 57 + 1]):
            self.check(0, [()] * len(ends), ends, None)

    def test_no_equations(self):
        for many in (1, 2, 12, 200):
            self.check(many, [], [], None)

    def test_one_unknown_number(self):
        for number in range(97):
            for end in (0, 1, 2, 50, 96):
                found = choices(1, [(number,)], [end])
                self.check(1, [(number,)], [end], found[0] if len(found) == 1 else None)

    def test_one_unknown_number_in_some_equations(self):
        self.check(1, [(0,), (0,)], [0, 0], None)
        self.check(1, [(0,), (3,)], [0, 6], (2,))
        self.check(1, [(3,), (0,)], [6, 0], (2,))
        self.check(1, [(0,), (3,)], [1, 6], None)
        self.check(1, [(3,), (0,)], [6, 1], None)
        self.check(1, [(3,), (5,)], [6, 10], (2,))
        self.check(1, [(3,), (5,)], [6, 11], None)
        self.check(1, [(97,)], [0], None)
        self.check(1, [(97,)], [97], None)
        self.check(1, [(97,)], [1], None)
        self.check(1, [(2,)], [1], (49,))
        self.check(1, [(1,)], [-1], (96,))
        self.check(1, [(-1,)], [1], (96,))
        self.check(1, [(1,)], [97], (0,))

    def test_two_unknown_numbers_against_each_choice(self):
        chance = random.Random(201)
        for _ in range(60):
            many_rows = chance.randint(1, 4)
            rows = [tuple(chance.choice((0, 0, 1, 2, 95, 96)) for _ in range(2)) for _ in range(many_rows)]
            ends = [chance.choice((0, 0, 1, 2)) for _ in range(many_rows)]
            found = choices(2, rows, ends)
            self.check(2, rows, ends, found[0] if len(found) == 1 else None)

    def test_the_first_places_empty(self):
        self.check(2, [(0, 1), (1, 0)], [7, 8], (8, 7))
        self.check(3, [(0, 0, 1), (0, 1, 1), (1, 1, 1)], [1, 3, 6], (3, 2, 1))
        self.check(2, [(0, 1), (0, 2)], [7, 14], None)
        self.check(2, [(1, 0), (2, 0)], [7, 14], None)
        self.check(2, [(1, 1), (1, -1)], [10, 4], (7, 3))
        self.check(2, [(1, 1), (1, 98)], [10, 10], None)
        self.check(2, [(1, 1), (1, 98)], [10, 11], None)

    def test_just_one_choice(self):
        for many in (1, 2, 3, 5, 12, 30):
            for seed in range(8):
                plan = Planted(1000 * many + seed, many)
                self.check(many, plan.rows, plan.ends(plan.rows), plan.numbers)

    def test_numbers_of_many_figures(self):
        for many in (1, 2, 3, 12):
            for seed in range(6):
                plan = Planted(2000 * many + seed, many)
                rows, ends = far_off(seed, plan.rows, plan.ends(plan.rows))
                self.check(many, rows, ends, plan.numbers)
                self.check(many, rows[1:], ends[1:], None)
                self.check(many, rows + rows[:1], ends + [ends[0] + 1], None)
        self.check(2, [(BIGGEST, 1), (-BIGGEST, 1)], [BIGGEST + 5, 5 - BIGGEST], (1, 5))

    def test_any_equations_of_many_figures(self):
        numbers = some_numbers(202, 12 * 13)
        rows = [tuple(numbers[at * 13:at * 13 + 12]) for at in range(12)]
        ends = [numbers[at * 13 + 12] for at in range(12)]
        found = self.told(solved, 12, rows, ends)
        self.check_numbers(found, 0, 96)
        self.assertEqual([(end_of(row, found) - end) % 97 for row, end in zip(rows, ends)], [0] * 12)

    def test_equations_that_follow_of_others(self):
        for many in (1, 2, 3, 5, 12, 20):
            for seed in range(5):
                plan = Planted(3000 * many + seed, many)
                following = [plan.mixed(plan.rows) for _ in range(seed + 1)] + plan.rows[:1] + [(0,) * many]
                for rows in (plan.rows + following, following + plan.rows, plan.shuffled(plan.rows + following)):
                    self.check(many, rows, plan.ends(rows), plan.numbers)

    def test_too_few_equations(self):
        for many in (1, 2, 3, 5, 12, 20):
            for seed in range(5):
                plan = Planted(4000 * many + seed, many)
                fewer = plan.rows[1:]
                self.check(many, fewer, plan.ends(fewer), None)
                # As many equations as unknown numbers and more, but one of them is still free.
                rows = plan.shuffled(fewer + [plan.mixed(fewer) for _ in range(seed + 2)])
                self.check(many, rows, plan.ends(rows), None)

    def test_ends_that_do_not_fit(self):
        for many in (1, 2, 3, 5, 12, 20):
            for seed in range(5):
                plan = Planted(5000 * many + seed, many)
                ends = plan.ends(plan.rows)
                for more in (plan.mixed(plan.rows), plan.rows[0], (0,) * many):
                    for off in (1, 96, -1, 50):
                        end = end_of(more, plan.numbers) + off
                        self.check(many, plan.rows + [more], ends + [end], None)
                        self.check(many, [more] + plan.rows, [end] + ends, None)

    def test_ends_that_do_not_fit_too_few_equations(self):
        for many in (2, 3, 12):
            plan = Planted(6000 * many, many)
            rows = plan.rows[:1] * 2
            end = plan.ends(rows)[0]
            self.check(many, rows, [end, end], None)
            self.check(many, rows, [end, end + 1], None)

    def test_another_end_gives_another_choice(self):
        plan = Planted(203, 12)
        ends = plan.ends(plan.rows)
        found = solved(12, plan.rows, [ends[0] + 1] + ends[1:])
        self.assertNotEqual(found, plan.numbers)
        self.assertEqual([end_of(row, found) % 97 for row in plan.rows], [(ends[0] + 1) % 97] + ends[1:])

    def test_rows_of_two_hundred_numbers(self):
        plan = Planted(204, 200)
        self.check(200, plan.rows, plan.ends(plan.rows), plan.numbers)

    def test_what_was_handed_in_may_be_changed_later(self):
        plan = Planted(205, 5)
        rows, ends = list(plan.rows), plan.ends(plan.rows)
        found = solved(5, rows, ends)
        rows.clear()
        ends.clear()
        self.assertEqual(found, plan.numbers)
        self.assertIsNone(solved(5, rows, ends))


if __name__ == "__main__":
    unittest.main()
