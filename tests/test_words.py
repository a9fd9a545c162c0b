"""Points 2, 3, 11, 12, 13: whole numbers, written numbers, letters, operands, level words."""

import unittest
from fractions import Fraction

from skewhouse.errors import NoNumber
from skewhouse.words import is_letter, is_level, is_whole, number_of, operand_of, worth, written

SIGNS = [chr(code) for code in range(ord(" "), ord("~") + 1)] + ["\n"]
LETTERS = "abcdefghijklmnopqrstuvwxyz"
THIRTY = "123456789012345678901234567890"

NUMBERS = {
    "0": 0,
    "1": 1,
    "9": 9,
    "-1": -1,
    "-9": -9,
    "10": 10,
    "-10": -10,
    "41": 41,
    "1002003": 1002003,
    THIRTY: 123456789012345678901234567890,
    "-" + THIRTY: -123456789012345678901234567890,
    "9" * 30: 10 ** 30 - 1,
    "-" + "9" * 30: 1 - 10 ** 30,
    "1" + "0" * 29: 10 ** 29,
    "-1" + "0" * 29: -(10 ** 29),
}

NO_NUMBERS = [
    "", "-", "--", "--1", "-0", "00", "007", "-007", "01", "+1", "+0", "+", "1-", "1-2", "- 1",
    " ", " 1", "1 ", "1 2", "-1 ", " -1", "\n", "\n1", "1\n", "1\n2", "-\n1", "0\n", "0 ", " 0",
    "\t1", "1_0", "1.0", "1e3", "0x1", "0b1", "1,000", "one", "aa", "A", "a1", "1a", "?", "1L",
    "1" * 31, "-" + "1" * 31, "0" * 30, "0" * 31, "1" + "0" * 30, "1" * 4000, "-" + "9" * 3999,
]


class WholeNumberTest(unittest.TestCase):
    def test_ints_are_whole_numbers(self):
        for thing in [0, 1, -1, 7, 10 ** 30, -(10 ** 30), 10 ** 5000]:
            self.assertIs(is_whole(thing), True)

    def test_truths_are_none(self):
        self.assertIs(is_whole(True), False)
        self.assertIs(is_whole(False), False)

    def test_other_things_are_none(self):
        things = [None, "", "1", "a", 1.0, 0.0, 1j, Fraction(3), [], [1], (), (1,), {}, {1: 1}, {1}]
        for thing in things + [b"1", range(3), int, object(), is_whole, ValueError("1")]:
            with self.subTest(repr(thing)):
                self.assertIs(is_whole(thing), False)

    def test_what_is_asked_about_stays(self):
        things = [[1, 2], {"a": 1}]
        is_whole(things[0])
        is_whole(things[1])
        self.assertEqual(things, [[1, 2], {"a": 1}])


class WrittenNumberTest(unittest.TestCase):
    def test_written_numbers_are_read(self):
        for text, number in NUMBERS.items():
            with self.subTest(text):
                self.assertEqual(number_of(text), number)
                self.assertIs(type(number_of(text)), int)

    def test_what_is_read_is_written_so(self):
        for number in list(range(-120, 121)) + [10 ** k for k in range(30)]:
            self.assertEqual(number_of(str(number)), number)

    def test_every_length_up_to_thirty_figures(self):
        for many in range(1, 31):
            self.assertEqual(number_of("7" * many), int("7" * many))
            self.assertEqual(number_of("-" + "7" * many), -int("7" * many))

    def test_other_texts_are_refused(self):
        for text in NO_NUMBERS:
            with self.subTest(text):
                self.assertRaises(NoNumber, number_of, text)

    def test_every_text_of_one_sign(self):
        for sign in SIGNS:
            with self.subTest(sign):
                if sign in "0123456789":
                    self.assertEqual(number_of(sign), "0123456789".index(sign))
                else:
                    self.assertRaises(NoNumber, number_of, sign)

    def test_a_sign_that_is_no_figure_at_any_place(self):
        for text in ["1", "-1", "305", "-305", THIRTY, THIRTY[1:], "-" + THIRTY[1:]]:
            for place in range(len(text) + 1):
                for sign in SIGNS:
                    if sign in "0123456789" or (sign == "-" and place == 0 and text[0] != "-"):
                        continue
                    with self.subTest(text=text, place=place, sign=sign):
                        self.assertRaises(NoNumber, number_of, text[:place] + sign + text[place:])
                        if place < len(text) and not (sign == "-" and place == 0):
                            self.assertRaises(NoNumber, number_of, text[:place] + sign + text[place + 1:])

    def test_a_nought_ahead_is_refused(self):
        for text, number in NUMBERS.items():
            self.assertRaises(NoNumber, number_of, "0" + text)
            if number < 0:
                self.assertRaises(NoNumber, number_of, text.replace("-", "-0"))

    def test_numbers_are_written_as_they_are_read(self):
        for text, number in NUMBERS.items():
            self.assertEqual(written(number), text)
        for number in range(-120, 121):
            self.assertEqual(written(number), str(number))

    def test_numbers_of_more_figures_are_written(self):
        for many in [30, 31, 63, 64, 65, 127, 128, 129, 192, 1000]:
            for number in [10 ** many, 10 ** many - 1, 10 ** many + 1, 10 ** many + 10 ** (many // 2), 7 ** many]:
                self.assertEqual(written(number), str(number))
                self.assertEqual(written(-number), str(-number))
        self.assertTrue(written(10 ** 9000 + 5) == "1" + "0" * 8999 + "5")
        self.assertTrue(written(-(10 ** 9000)) == "-1" + "0" * 9000)


class LetterTest(unittest.TestCase):
    def test_every_text_of_one_sign(self):
        for sign in SIGNS:
            with self.subTest(sign):
                self.assertIs(is_letter(sign), sign in LETTERS)

    def test_the_edges(self):
        for text in ["a", "z"]:
            self.assertIs(is_letter(text), True)
        for text in ["`", "{", "A", "Z"]:
            self.assertIs(is_letter(text), False)

    def test_other_lengths_are_none(self):
        for text in ["", "aa", "az", "ab", "a ", " a", "a\n", "\na", "abc", "zz", "a" * 4000]:
            with self.subTest(text):
                self.assertIs(is_letter(text), False)


class OperandTest(unittest.TestCase):
    def test_a_letter_is_kept_as_that_text(self):
        for letter in LETTERS:
            self.assertEqual(operand_of(letter), letter)
            self.assertIs(type(operand_of(letter)), str)

    def test_a_number_is_read(self):
        for text, number in NUMBERS.items():
            with self.subTest(text):
                self.assertEqual(operand_of(text), number)
                self.assertIs(type(operand_of(text)), int)

    def test_other_texts_are_refused(self):
        for text in NO_NUMBERS + ["A", "Z", "ab", "a ", " a", "a\n", "-a", "{", "`", "loose"]:
            with self.subTest(text):
                self.assertRaises(NoNumber, operand_of, text)

    def test_a_number_is_worth_itself(self):
        for number in NUMBERS.values():
            for names in [{}, {"a": 5}]:
                self.assertEqual(worth(number, names), number)
        self.assertEqual(worth(10 ** 5000, {}), 10 ** 5000)

    def test_a_letter_is_worth_what_stands_under_it(self):
        names = {"a": 5, "b": 0, "y": -10 ** 29, "z": 10 ** 30 - 1}
        for letter, number in names.items():
            self.assertEqual(worth(letter, names), number)

    def test_a_letter_that_is_not_in_the_names_is_worth_nought(self):
        for letter in LETTERS:
            self.assertEqual(worth(letter, {}), 0)
        self.assertEqual(worth("b", {"a": 5, "c": 7}), 0)

    def test_the_names_stay_as_they_were(self):
        names = {"z": 1, "a": 2}
        for operand in ["a", "b", "z", 3, -3]:
            worth(operand, names)
        self.assertEqual(list(names.items()), [("z", 1), ("a", 2)])

    def test_names_that_change_are_asked_anew(self):
        names = {"a": 1}
        self.assertEqual(worth("a", names), 1)
        names["a"] = 2
        self.assertEqual(worth("a", names), 2)
        self.assertEqual(worth("a", {}), 0)

    def test_arguments_by_name(self):
        self.assertEqual(worth(operand="a", names={"a": 4}), 4)
        self.assertEqual(operand_of(text="a"), "a")
        self.assertEqual(number_of(text="12"), 12)
        self.assertIs(is_letter(text="a"), True)
        self.assertIs(is_whole(thing=1), True)
        self.assertIs(is_level(word="make"), True)


class LevelWordTest(unittest.TestCase):
    WORDS = ["loose", "kept", "make", "watch", "hold"]

    def test_the_five_words(self):
        for word in self.WORDS:
            self.assertIs(is_level(word), True)

    def test_no_other_text(self):
        others = ["", " ", ":", "none", "level", "Loose", "KEPT", "loosekept", "loose kept", "watch:", "a", "0"]
        for text in others + ["lose", "keep", "makes", "holds", "watched", "\n"]:
            with self.subTest(text):
                self.assertIs(is_level(text), False)

    def test_one_sign_otherwise(self):
        for word in self.WORDS:
            for place in range(len(word) + 1):
                texts = [word[:place] + word[place + 1:]] if place < len(word) else []
                for sign in SIGNS:
                    texts.append(word[:place] + sign + word[place:])
                    if place < len(word) and sign != word[place]:
                        texts.append(word[:place] + sign + word[place + 1:])
                for text in texts:
                    with self.subTest(text):
                        self.assertIs(is_level(text), False)


if __name__ == "__main__":
    unittest.main()
