"""Points 2, 3, 14 to 17 and 19: deeds, how they are written, and what comes of them."""

import copy
import re
import unittest

from skewhouse.deeds import asked, following, let_of, read_deed, show_deed, told, under
from skewhouse.errors import NoDeed, SkewError

SIGNS = [chr(code) for code in range(ord(" "), ord("~") + 1)] + ["\n"]
BIG = 987654321098765432109876543210
OPERANDS = ["a", "m", "z", 0, 1, -1, 9, -40, BIG, -BIG]
LETTERS = ["a", "k", "z"]

# The written forms of point 15, told a second time, by patterns.
NUMBER = "(?:0|-?[1-9][0-9]{0,29})"
OPERAND = f"(?:[a-z]|{NUMBER})"
WRITTEN = [re.compile(form) for form in [
    f"read [a-z] {OPERAND}",
    f"(?:sum|count) [a-z] {OPERAND} {OPERAND}",
    f"(?:put|stop) {OPERAND} {OPERAND}",
    f"take {OPERAND}",
    f"let [a-z] {OPERAND} [+-] {OPERAND}",
    f"skip {OPERAND} {OPERAND} (?:[1-9]|[123][0-9]|40)",
]]

# One text of each of the nine written forms.
SAMPLES = [
    "read z 5",
    "sum a 1 b",
    "count c x 90",
    "put k -3",
    "take 7",
    "let z a + 1",
    "let z 4 - y",
    "skip a 10 2",
    "stop 0 q",
]


def is_written(text):
    return any(form.fullmatch(text) for form in WRITTEN)


def all_deeds():
    deeds = []
    for one in OPERANDS:
        deeds.append(("take", one))
        for letter in LETTERS:
            deeds.append(("read", letter, one))
        for other in OPERANDS:
            deeds.append(("put", one, other))
            deeds.append(("stop", one, other))
            for many in (1, 2, 9, 10, 39, 40):
                deeds.append(("skip", one, other, many))
            for letter in LETTERS:
                deeds.append(("sum", letter, one, other))
                deeds.append(("count", letter, one, other))
                deeds.append(("let", letter, one, "+", other))
                deeds.append(("let", letter, one, "-", other))
    return deeds


def with_one_sign_otherwise(text):
    texts = []
    for place in range(len(text) + 1):
        if place < len(text):
            texts.append(text[:place] + text[place + 1:])
        for sign in SIGNS:
            texts.append(text[:place] + sign + text[place:])
            if place < len(text):
                texts.append(text[:place] + sign + text[place + 1:])
    return texts


class DeedTest(unittest.TestCase):
    def refused(self, text):
        with self.subTest(text):
            with self.assertRaises(SkewError) as taken:
                read_deed(text)
            self.assertIs(type(taken.exception), NoDeed)

    def read_as(self, text, deed):
        with self.subTest(text):
            found = read_deed(text)
            self.assertEqual(found, deed)
            self.assertIs(type(found), tuple)
            self.assertEqual([type(part) for part in found], [type(part) for part in deed])


class ReadingTest(DeedTest):
    def test_the_nine_written_forms(self):
        self.read_as("read z 5", ("read", "z", 5))
        self.read_as("sum a 1 b", ("sum", "a", 1, "b"))
        self.read_as("count c x 90", ("count", "c", "x", 90))
        self.read_as("put k -3", ("put", "k", -3))
        self.read_as("take 7", ("take", 7))
        self.read_as("let z a + 1", ("let", "z", "a", "+", 1))
        self.read_as("let z 4 - y", ("let", "z", 4, "-", "y"))
        self.read_as("skip a 10 2", ("skip", "a", 10, 2))
        self.read_as("stop 0 q", ("stop", 0, "q"))

    def test_a_minus_as_sign_and_below_nought(self):
        self.read_as("let a -1 - -2", ("let", "a", -1, "-", -2))
        self.read_as("let a -1 + -2", ("let", "a", -1, "+", -2))

    def test_numbers_of_thirty_figures(self):
        self.read_as("put " + "9" * 30 + " -" + "9" * 30, ("put", 10 ** 30 - 1, 1 - 10 ** 30))
        self.refused("put " + "9" * 31 + " 1")
        self.refused("put 1 -" + "9" * 31)

    def test_shown_and_read_again(self):
        for deed in all_deeds():
            self.read_as(show_deed(deed), deed)

    def test_read_and_shown_again(self):
        for text in SAMPLES + ["let a -1 - -2", "take -" + "1" * 30, "skip -5 a 40", "read a a"]:
            self.assertEqual(show_deed(read_deed(text)), text)

    def test_every_number_of_deeds_to_skip(self):
        for many in range(1, 41):
            self.read_as(f"skip a b {many}", ("skip", "a", "b", many))

    def test_no_other_number_of_deeds_to_skip(self):
        wrong = ["0", "41", "42", "-1", "-40", "-0", "01", "007", "+1", "40 ", "4_0", "1.0", "400", "9" * 30]
        for many in wrong + ["a", "z", "A", "", "-", "one", "1" * 31, "1\n", "\n1", "1 1"]:
            self.refused(f"skip a b {many}")

    def test_show(self):
        self.assertEqual(show_deed(("let", "z", -5, "-", "a")), "let z -5 - a")
        self.assertEqual(show_deed(("skip", 0, "b", 40)), "skip 0 b 40")
        self.assertEqual(show_deed(("take", -BIG)), f"take -{BIG}")

    def test_arguments_by_name(self):
        self.assertEqual(read_deed(text="take 1"), ("take", 1))
        self.assertEqual(show_deed(deed=("take", 1)), "take 1")


class RefusedTest(DeedTest):
    def test_no_deed_at_all(self):
        for text in ["", " ", "  ", "\n", ";", "a", "0", "deed", "read", "sum", "count", "put", "take", "let"]:
            self.refused(text)
        self.refused("skip")
        self.refused("stop")

    def test_a_part_left_out(self):
        for text in SAMPLES:
            parts = text.split(" ")
            for place in range(len(parts)):
                self.refused(" ".join(parts[:place] + parts[place + 1:]))

    def test_a_part_twice(self):
        for text in SAMPLES:
            parts = text.split(" ")
            for place in range(len(parts)):
                self.refused(" ".join(parts[:place + 1] + parts[place:]))
            self.refused(" ".join([text, text]))

    def test_a_part_put_in(self):
        for text in SAMPLES:
            parts = text.split(" ")
            for place in range(len(parts) + 1):
                for more in ["a", "1", "+", "-", "read", ";", ""]:
                    self.refused(" ".join(parts[:place] + [more] + parts[place:]))

    def test_blanks_and_line_feeds(self):
        for text in SAMPLES:
            for wrong in [" " + text, text + " ", text.replace(" ", "  "), text.replace(" ", "")]:
                self.refused(wrong)
            for wrong in [text + "\n", "\n" + text, text.replace(" ", "\n"), text.replace(" ", " \n")]:
                self.refused(wrong)
            self.refused(text.replace(" ", "\t"))

    def test_another_word(self):
        for text in SAMPLES:
            word, rest = text.split(" ", 1)
            for wrong in [word.upper(), word.capitalize(), word + "s", word[:-1], "", "do", "5", "a"]:
                self.refused(f"{wrong} {rest}")

    def test_another_sign_than_plus_or_minus(self):
        for sign in SIGNS + ["", "+-", "-+", "++", "--", "plus", "1", "a", "+1", "-1"]:
            if sign not in ("+", "-"):
                self.refused(f"let z a {sign} b")

    def test_no_letter_where_one_is_asked_for(self):
        for wrong in ["5", "-1", "A", "Z", "aa", "", "+", "`", "{", "0"]:
            for rest in ["read {} 1", "sum {} 1 2", "count {} 1 2", "let {} 1 + 2", "let {} 1 - 2"]:
                self.refused(rest.format(wrong))

    def test_no_operand_where_one_is_asked_for(self):
        forms = ["read a {}", "sum a {} 1", "sum a 1 {}", "count a {} 1", "count a 1 {}", "put {} 1", "put 1 {}"]
        forms += ["take {}", "let a {} + 1", "let a 1 + {}", "let a {} - 1", "let a 1 - {}"]
        forms += ["skip {} 1 1", "skip 1 {} 1", "stop {} 1", "stop 1 {}"]
        for form in forms:
            for wrong in ["", "A", "ab", "-0", "007", "+1", "-", "+", "1" * 31, "-a", "1\n", "a\n", "\n", "1.0"]:
                self.refused(form.format(wrong))

    def test_texts_with_one_sign_otherwise(self):
        for sample in SAMPLES + ["skip -9 z 40", "let b -1 - -20"]:
            for text in with_one_sign_otherwise(sample):
                if is_written(text):
                    self.assertEqual(show_deed(read_deed(text)), text)
                else:
                    self.refused(text)

    def test_long_texts(self):
        for text in ["a" * 4000, "1" * 4000, " " * 4000, "take " + "1" * 3995, "take 1" + " 1" * 1997]:
            self.refused(text)


class LookTest(unittest.TestCase):
    def test_asked_by_a_read(self):
        self.assertEqual(asked(("read", "z", 5), {}), (5, 5))
        self.assertEqual(asked(("read", "z", "k"), {"k": -7, "z": 3}), (-7, -7))
        self.assertEqual(asked(("read", "z", "z"), {"k": -7, "z": 3}), (3, 3))
        self.assertEqual(asked(("read", "z", "k"), {}), (0, 0))
        self.assertEqual(asked(("read", "z", BIG), {}), (BIG, BIG))

    def test_asked_by_sum_and_count(self):
        for word in ("sum", "count"):
            self.assertEqual(asked((word, "z", 1, 9), {}), (1, 9))
            self.assertEqual(asked((word, "z", "a", "b"), {"a": 2, "b": 4, "z": 8}), (2, 4))
            self.assertEqual(asked((word, "z", -3, "b"), {"b": -3}), (-3, -3))
            self.assertEqual(asked((word, "z", "a", "b"), {"b": 6}), (0, 6))
            self.assertEqual(asked((word, "z", -BIG, BIG), {}), (-BIG, BIG))

    def test_low_above_high_is_given_as_it_stands(self):
        for word in ("sum", "count"):
            self.assertEqual(asked((word, "z", 9, 1), {}), (9, 1))
            self.assertEqual(asked((word, "z", "a", "b"), {"a": 1}), (1, 0))

    def test_a_stretch_is_a_tuple(self):
        self.assertIs(type(asked(("read", "z", 5), {})), tuple)
        self.assertIs(type(asked(("sum", "z", 5, 6), {})), tuple)

    def test_told_by_a_read(self):
        look = ("read", "z", 5)
        self.assertEqual(told(look, []), 0)
        self.assertEqual(told(look, [(5, 12)]), 12)
        self.assertEqual(told(look, [(5, -12)]), -12)
        self.assertEqual(told(look, [(5, 0)]), 0)
        self.assertEqual(told(look, [(-1, 7), (5, 8), (6, 9)]), 7)

    def test_told_by_a_sum(self):
        look = ("sum", "z", 1, 9)
        self.assertEqual(told(look, []), 0)
        self.assertEqual(told(look, [(3, 12)]), 12)
        self.assertEqual(told(look, [(1, 5), (2, -8), (9, 1)]), -2)
        self.assertEqual(told(look, [(1, BIG), (2, BIG)]), 2 * BIG)

    def test_told_by_a_count(self):
        look = ("count", "z", 1, 9)
        self.assertEqual(told(look, []), 0)
        self.assertEqual(told(look, [(3, 12)]), 1)
        self.assertEqual(told(look, [(1, 0), (2, -8), (9, 0)]), 3)

    def test_nothing_is_asked_of_the_keys(self):
        rows = [(-100, 1), (50, 2), (BIG, 4)]
        self.assertEqual(told(("read", "z", 5), rows), 1)
        for low, high in [(1, 9), (9, 1), ("a", "b")]:
            self.assertEqual(told(("sum", "z", low, high), rows), 7)
            self.assertEqual(told(("count", "z", low, high), rows), 3)

    def test_arguments_by_name(self):
        self.assertEqual(asked(deed=("read", "z", "a"), names={"a": 2}), (2, 2))
        self.assertEqual(told(deed=("read", "z", "a"), rows=[(1, 6)]), 6)


class LetTest(unittest.TestCase):
    def test_together(self):
        self.assertEqual(let_of(("let", "z", 4, "+", 3), {}), 7)
        self.assertEqual(let_of(("let", "z", "a", "+", "b"), {"a": 10, "b": -4}), 6)
        self.assertEqual(let_of(("let", "z", "z", "+", 1), {"z": 10}), 11)
        self.assertEqual(let_of(("let", "z", BIG, "+", BIG), {}), 2 * BIG)

    def test_less(self):
        self.assertEqual(let_of(("let", "z", 4, "-", 3), {}), 1)
        self.assertEqual(let_of(("let", "z", 3, "-", 4), {}), -1)
        self.assertEqual(let_of(("let", "z", "a", "-", "b"), {"a": 10, "b": -4}), 14)
        self.assertEqual(let_of(("let", "z", "b", "-", "z"), {"b": 1, "z": 10}), -9)

    def test_letters_not_in_the_names(self):
        self.assertEqual(let_of(("let", "z", "a", "+", "b"), {}), 0)
        self.assertEqual(let_of(("let", "z", "a", "-", 5), {}), -5)
        self.assertEqual(let_of(("let", "z", 5, "-", "a"), {"b": 3}), 5)

    def test_arguments_by_name(self):
        self.assertEqual(let_of(deed=("let", "z", "a", "+", 1), names={"a": 2}), 3)


class UnderTest(unittest.TestCase):
    def test_less_equal_and_greater(self):
        for one, other, answer in [(1, 2, True), (2, 2, False), (3, 2, False), (-2, -1, True), (-1, -2, False)]:
            for names, left, right in [({}, one, other), ({"a": one, "b": other}, "a", "b")]:
                self.assertIs(under(("skip", left, right, 3), names), answer)
                self.assertIs(under(("stop", left, right), names), answer)

    def test_letters_not_in_the_names(self):
        self.assertIs(under(("stop", "a", 1), {}), True)
        self.assertIs(under(("stop", "a", 0), {}), False)
        self.assertIs(under(("skip", -1, "a", 9), {"b": -5}), True)
        self.assertIs(under(("skip", "a", "b", 9), {}), False)

    def test_arguments_by_name(self):
        self.assertIs(under(deed=("stop", "a", 1), names={"a": 1}), False)


class FollowingTest(unittest.TestCase):
    PLAIN = [
        ("read", "z", 5), ("sum", "z", 1, 9), ("count", "z", 1, 9), ("put", 1, 2), ("take", 1),
        ("let", "z", 1, "+", 9), ("let", "z", 1, "-", 9),
        ("stop", 1, 2), ("stop", 2, 2), ("stop", 3, 2),
        ("skip", 2, 2, 3), ("skip", 3, 2, 3), ("skip", 2, 2, 40),
    ]

    def test_the_next_place(self):
        for deed in self.PLAIN:
            for place, many in [(0, 1), (0, 40), (3, 40), (39, 40), (6, 7)]:
                with self.subTest(deed=deed, place=place, many=many):
                    self.assertEqual(following(deed, place, {}, many), place + 1)

    def test_behind_a_skip_that_is_under(self):
        for many_skipped in range(1, 41):
            deed = ("skip", 1, 2, many_skipped)
            for place in range(40):
                self.assertEqual(following(deed, place, {}, 40), min(place + 1 + many_skipped, 40))

    def test_a_skip_to_the_end_and_beyond_it(self):
        self.assertEqual(following(("skip", 1, 2, 3), 1, {}, 6), 5)
        self.assertEqual(following(("skip", 1, 2, 3), 1, {}, 5), 5)
        self.assertEqual(following(("skip", 1, 2, 3), 1, {}, 4), 4)
        self.assertEqual(following(("skip", 1, 2, 40), 0, {}, 1), 1)
        self.assertEqual(following(("skip", 1, 2, 1), 0, {}, 1), 1)

    def test_with_names(self):
        deed = ("skip", "a", "b", 2)
        self.assertEqual(following(deed, 0, {"a": 1, "b": 2}, 9), 3)
        self.assertEqual(following(deed, 0, {"a": 2, "b": 2}, 9), 1)
        self.assertEqual(following(deed, 0, {"a": 3, "b": 2}, 9), 1)
        self.assertEqual(following(deed, 0, {"b": 1}, 9), 3)
        self.assertEqual(following(deed, 0, {}, 9), 1)
        self.assertEqual(following(("stop", "a", "b"), 0, {"b": 1}, 9), 1)

    def test_arguments_by_name(self):
        self.assertEqual(following(deed=("skip", "a", 1, 2), place=1, names={}, many=9), 4)


class HandedInTest(unittest.TestCase):
    def test_names_rows_and_deeds_stay_as_they_were(self):
        names, rows = {"q": 1, "a": 2}, [(1, 5), (2, 6), (3, -7)]
        names_before, rows_before = list(names.items()), copy.deepcopy(rows)
        for text in SAMPLES:
            deed = read_deed(text)
            before = copy.deepcopy(deed)
            show_deed(deed)
            following(deed, 0, names, 5)
            if deed[0] in ("read", "sum", "count"):
                asked(deed, names)
                told(deed, rows)
            if deed[0] == "let":
                let_of(deed, names)
            if deed[0] in ("skip", "stop"):
                under(deed, names)
            self.assertEqual(deed, before)
            self.assertEqual(list(names.items()), names_before)
            self.assertEqual(rows, rows_before)

    def test_what_is_changed_later_changes_no_answer_given(self):
        names, rows = {"a": 4}, [(1, 5)]
        stretch, total = asked(("read", "z", "a"), names), told(("sum", "z", 1, 2), rows)
        names["a"] = 9
        rows.append((2, 6))
        self.assertEqual((stretch, total), ((4, 4), 5))
        self.assertEqual(asked(("read", "z", "a"), names), (9, 9))
        self.assertEqual(told(("sum", "z", 1, 2), rows), 11)

    def test_asked_again_the_answer_is_the_same(self):
        for text in SAMPLES:
            self.assertEqual(read_deed(text), read_deed(text))
            self.assertEqual(following(read_deed(text), 2, {"a": 3}, 8), following(read_deed(text), 2, {"a": 3}, 8))


if __name__ == "__main__":
    unittest.main()
