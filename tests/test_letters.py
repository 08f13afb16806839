"""Promises [1] and [14], and the interface of setmend/letters.py."""

import itertools
import random
import unittest

import setmend.letters as letters
from setmend.errors import NoLetter, NoText
from setmend.letters import is_letter, read, written
from setmend.sums import sums
from tests.helper import ALL_MARKS, BIGGEST, NO_LETTERS, SETS, MendCase

GREAT = (0, 1, 9, 10, 96, 97, 100, 10 ** 30, 10 ** 59, BIGGEST - 1, BIGGEST)
# Every sign that a text may have, line ends beside.
SIGNS = "".join(chr(code) for code in range(32, 127) if code != 37) + "\n"


def some_letters(seed, many):
    chance = random.Random(seed)
    for _ in range(many):
        told = tuple(chance.randrange(97) for _ in range(chance.choice((0, 1, 2, 5, 95, 96))))
        turn, deeds = (chance.randrange(10 ** chance.randint(1, 60)) for _ in range(2))
        yield (turn, deeds, chance.randrange(97), told)


class LetterCase(MendCase):
    def check_letter(self, letter):
        """It is one, is written as [14] tells, and read again the same."""
        self.assertIs(self.told(is_letter, letter), True, letter)
        text = self.told(written, letter)
        self.assertIs(type(text), str)
        turn, deeds, count, told = letter
        due = str(turn) + " " + str(deeds) + " " + str(count) + ":"
        for number in told:
            due += " " + str(number)
        self.assertEqual(text, due)
        found = self.told(read, text)
        self.assertEqual(found, letter)
        self.assertEqual([type(part) for part in found], [int, int, int, tuple])
        self.check_numbers(found[3], 0, 96)


class InterfaceTest(MendCase):
    def test_each_name_stands_in_its_file(self):
        self.check_function(letters, "is_letter", ["thing"])
        self.check_function(letters, "written", ["letter"])
        self.check_function(letters, "read", ["text"])


class LettersTest(LetterCase):
    def test_known_ones(self):
        self.assertEqual(written((0, 3, 17, (5, 80))), "0 3 17: 5 80")
        self.assertEqual(read("0 3 17: 5 80"), (0, 3, 17, (5, 80)))
        self.assertEqual(written((0, 0, 0, ())), "0 0 0:")
        self.assertEqual(read("0 0 0:"), (0, 0, 0, ()))
        self.assertEqual(written((12, 0, 96, (0, 96, 10))), "12 0 96: 0 96 10")
        self.assertEqual(read("12 0 96: 0 96 10"), (12, 0, 96, (0, 96, 10)))

    def test_turns_and_deeds_of_up_to_sixty_figures(self):
        for turn, deeds in itertools.product(GREAT, repeat=2):
            self.check_letter((turn, deeds, 17, (5, 80)))
        for figures in range(1, 61):
            self.check_letter((10 ** (figures - 1), 10 ** figures - 1, 0, ()))

    def test_each_count(self):
        for count in range(97):
            self.check_letter((1, 2, count, ()))

    def test_each_sum(self):
        for number in range(97):
            self.check_letter((0, 0, 5, (number,)))
            self.check_letter((0, 0, 5, (0, number, 96)))

    def test_none_to_96_sums(self):
        for many in range(97):
            self.check_letter((3, 4, 96, sums(SETS[9], many)))
            self.check_letter((3, 4, 0, (0,) * many))
        self.check_letter((3, 4, 0, ALL_MARKS))

    def test_letters_as_drawn(self):
        for letter in some_letters(501, 200):
            self.check_letter(letter)


class NoLetterTest(MendCase):
    def check_none(self, thing):
        self.assertIs(is_letter(thing), False, repr(thing))
        self.refused(NoLetter, written, thing)

    def test_what_is_no_letter(self):
        for thing in NO_LETTERS:
            self.check_none(thing)

    def test_each_part_spoilt(self):
        right = (1, 2, 3, (4, 5))
        self.assertIs(is_letter(right), True)
        for wrong in (-1, -BIGGEST, True, False, None, "1", (), (1,), [1], {}, b"1"):
            for at in range(3):
                self.check_none(right[:at] + (wrong,) + right[at + 1:])
            if wrong != () and wrong != (1,):
                self.check_none(right[:3] + (wrong,))
            for at in range(2):
                told = right[3]
                self.check_none(right[:3] + (told[:at] + (wrong,) + told[at + 1:],))
        for wrong in (97, 98, 194, BIGGEST):
            self.check_none((1, 2, wrong, (4, 5)))
            self.check_none((1, 2, 3, (wrong, 5)))
            self.check_none((1, 2, 3, (4, wrong)))

    def test_too_many_sums(self):
        for many in (97, 98, 200):
            self.check_none((0, 0, 0, (0,) * many))

    def test_objects_of_any_kind(self):
        for thing in (object(), NoLetter("why"), NoLetter, len, self, lambda: (0, 0, 0, ()), range(4)):
            self.assertIs(is_letter(thing), False)
            with self.assertRaises(NoLetter):
                written(thing)


class NoTextTest(LetterCase):
    def check_none(self, text):
        self.refused(NoText, read, text)

    def test_known_ones(self):
        wrong = (
            "", " ", ":", "  :", " : ", "0", "0 3 17", "0 3 17 5 80", "0 3: 5 80", "0 3 17 5: 80", "0 3 17 : 5 80",
            "0:3:17: 5 80", "0 3 17:: 5 80", "0 3 17: 5: 80", "0 3 17: 5 80:", ":0 3 17: 5 80", "0 3 17; 5 80",
            "0 3 17:5 80", "0 3 17:5", "0 3 17: 5  80", "0 3 17:  5 80", "0 3 17: 5 80 ", "0 3 17: ", "0 3 17:  ",
            " 0 3 17: 5 80", "0  3 17: 5 80", "0 3  17: 5 80", "0 3 17 :", " 0 3 17:", "0 3 17 ",
            "00 3 17: 5 80", "0 03 17: 5 80", "0 3 017: 5 80", "0 3 17: 05 80", "0 3 17: 5 00", "0 3 07: 5",
            "0 3 17: 07", "0 00 17:", "0 3 00:", "0 3 97: 5 80", "0 3 17: 97", "0 3 17: 5 100", "0 3 100:",
            "-1 3 17: 5 80", "0 -1 17: 5 80", "0 3 -1: 5 80", "0 3 17: -1", "0 3 17: -0", "+3 3 17: 5 80",
            "0 +3 17: 5", "0 3 +17: 5", "0 3 17: +5", "5_0 3 17:", "0 5_0 17:", "0 3 5_0:", "0 3 17: 5_0",
            "0 3 17: 5,80", "0, 3, 17: 5, 80", "(0, 3, 17, (5, 80))", "0 3 17: (5 80)", "0 3 17: 5.0", "0x1 3 17:",
            "a b c:", "0 3 17: a", "0 3 q: 5", "0 3 17: 5 80\n", "\n0 3 17: 5 80", "0 3 17:\n5 80", "0\n3 17: 5 80",
            "0 3 17: 5\n80", "0 3 17:\n", "0 3 17\n:", "0 3 17: 5 80\n0 3 17: 5 80", "0\t3 17:", "\n", "None", "1e2 3 17:",
        )
        for text in wrong:
            self.check_none(text)

    def test_numbers_of_more_than_sixty_figures(self):
        for figures in (61, 62, 100, 400, 1900):
            for number in ("1" * figures, "9" * figures, "1" + "0" * (figures - 1), "0" * figures):
                self.check_none(number + " 3 17: 5 80")
                self.check_none("0 " + number + " 17: 5 80")
                self.check_none("0 3 " + number + ": 5 80")
                self.check_none("0 3 17: " + number)
        self.check_none("0 3 17: 5" + " 5" * 900)
        self.check_none("0" * 2000)

    def test_a_nought_ahead_of_sixty_figures_and_less(self):
        for figures in (1, 2, 59, 60):
            self.assertEqual(read("9" * figures + " 0 0:"), (int("9" * figures), 0, 0, ()))
            self.check_none("0" + "9" * figures + " 0 0:")
            self.check_none("0 0" + "9" * figures + " 0:")

    def test_too_many_sums(self):
        self.assertEqual(read("0 3 17:" + " 5" * 96), (0, 3, 17, (5,) * 96))
        for many in (97, 98, 200):
            self.check_none("0 3 17:" + " 5" * many)

    def check_text(self, text):
        """It is refused, or else it is just what the letter is written as that it is read to."""
        try:
            letter = read(text)
        except NoText:
            return self.check_none(text)
        self.check_letter(letter)
        self.assertEqual(written(letter), text)

    def test_each_sign_put_in_gone_and_in_place_of_another(self):
        for right in ("0 3 17: 5 80", "10 0 96:", "1 2 0: 0"):
            self.check_letter(read(right))
            for at in range(len(right) + 1):
                self.check_text(right[:at] + right[at + 1:])
                for sign in SIGNS:
                    self.check_text(right[:at] + sign + right[at:])
                    self.check_text(right[:at] + sign + right[at + 1:])

    def test_signs_other_than_figures_in_place_of_a_figure(self):
        for sign in SIGNS:
            if not "0" <= sign <= "9":
                self.check_none("0 3 1" + sign + ": 5 80")
                self.check_none(sign + " 3 17: 5 80")
                self.check_none("0 3 17: 5 8" + sign)

    def test_texts_as_drawn(self):
        chance = random.Random(502)
        for _ in range(3000):
            self.check_text("".join(chance.choice("0123 97:\n-") for _ in range(chance.randint(0, 14))))


if __name__ == "__main__":
    unittest.main()
