"""Points 2, 3, 18 and 19: programs, how they are written and read."""

import copy
import inspect
import unittest

from skewhouse.deeds import read_deed, show_deed
from skewhouse.errors import NoDeed, NoProgram, SkewError
from skewhouse.programs import read_program, show_program

SIGNS = [chr(code) for code in range(ord(" "), ord("~") + 1)] + ["\n"]
WORDS = ["loose", "kept", "make", "watch", "hold"]
BIG = 987654321098765432109876543210

DEEDS = [
    ("read", "z", 5),
    ("sum", "a", 1, "b"),
    ("count", "c", "x", 90),
    ("put", "k", -BIG),
    ("take", BIG),
    ("let", "z", "a", "+", 1),
    ("let", "z", -4, "-", "y"),
    ("skip", "a", 10, 40),
    ("stop", 0, "q"),
]

# None, one, several and the most deeds that a program may have.
LISTS = [[]] + [[deed] for deed in DEEDS] + [DEEDS[:2], DEEDS, DEEDS + DEEDS[::-1]]
LISTS += [[("take", number) for number in range(many)] for many in (2, 39, 40)] + [(DEEDS * 5)[:40]]


def is_deed(text):
    try:
        read_deed(text)
    except NoDeed:
        return False
    return True


def asked_for(text):
    """What comes of a text, told by point 18 a second time, sign by sign."""
    word = ""
    while len(word) < len(text) and text[len(word)] != ":":
        word += text[len(word)]
    rest = text[len(word):]
    if rest == "" or word not in WORDS or (len(rest) > 1 and rest[1] != " "):
        return NoProgram
    if rest == ":":
        return (word, [])
    parts = [""]
    place = 2
    while place < len(rest):
        if rest[place:place + 2] == "; ":
            parts.append("")
            place += 2
        else:
            parts[-1] += rest[place]
            place += 1
    if len(parts) > 40:
        return NoProgram
    if not all([is_deed(part) for part in parts]):
        return NoDeed
    return (word, [read_deed(part) for part in parts])


class ProgramTest(unittest.TestCase):
    def refused(self, text, kind):
        with self.subTest(text):
            with self.assertRaises(SkewError) as taken:
                read_program(text)
            self.assertIs(type(taken.exception), kind)

    def read_as(self, text, program):
        with self.subTest(text):
            found = read_program(text)
            self.assertEqual(found, program)
            self.assertIs(type(found), tuple)
            self.assertEqual([type(part) for part in found], [str, list])
            self.assertEqual([type(deed) for deed in found[1]], [tuple] * len(found[1]))


class WrittenTest(ProgramTest):
    def test_without_deeds(self):
        for word in WORDS:
            self.assertEqual(show_program((word, [])), word + ":")
            self.read_as(word + ":", (word, []))

    def test_with_deeds(self):
        self.assertEqual(show_program(("hold", [("take", 7)])), "hold: take 7")
        self.assertEqual(show_program(("kept", [("read", "z", 5), ("put", 5, "z")])), "kept: read z 5; put 5 z")
        self.read_as("hold: take 7", ("hold", [("take", 7)]))
        self.read_as("kept: read z 5; put 5 z", ("kept", [("read", "z", 5), ("put", 5, "z")]))
        self.read_as("loose: skip a -1 40; stop 0 a; take -3; let a a + 1", (
            "loose", [("skip", "a", -1, 40), ("stop", 0, "a"), ("take", -3), ("let", "a", "a", "+", 1)]))

    def test_each_level_and_each_number_of_deeds_shown_and_read_again(self):
        for word in WORDS:
            for deeds in LISTS:
                self.read_as(show_program((word, deeds)), (word, deeds))

    def test_the_text_is_the_parts_put_together(self):
        for word in WORDS:
            for deeds in LISTS[1:]:
                text = word + ": " + "; ".join([show_deed(deed) for deed in deeds])
                self.assertEqual(show_program((word, deeds)), text)

    def test_every_number_of_deeds_up_to_forty(self):
        for many in range(1, 41):
            text = "make: " + "; ".join(["take 1"] * many)
            self.read_as(text, ("make", [("take", 1)] * many))
            self.assertEqual(show_program(read_program(text)), text)

    def test_read_and_shown_again(self):
        texts = ["watch:", "hold: take 7", "loose: let a -1 - -2; skip -9 z 40", "kept: put " + "9" * 30 + " -1"]
        for text in texts:
            self.assertEqual(show_program(read_program(text)), text)

    def test_arguments_by_name(self):
        self.assertEqual(read_program(text="make: take 1"), ("make", [("take", 1)]))
        self.assertEqual(show_program(program=("make", [("take", 1)])), "make: take 1")
        self.assertEqual(list(inspect.signature(read_program).parameters), ["text"])
        self.assertEqual(list(inspect.signature(show_program).parameters), ["program"])


class NoProgramTest(ProgramTest):
    def test_no_colon(self):
        for text in ["", " ", "\n", "watch", "watch ", "watch take 1", "take 1", "take 1; take 2", "; ", "loose; kept"]:
            self.refused(text, NoProgram)

    def test_no_level_word_ahead_of_the_first_colon(self):
        words = ["", " ", "Watch", "WATCH", "watches", "watc", "none", "take 1", "a", "0", "watch watch", "w\n", "\n"]
        for word in words + ["watch;", "; ", "loose kept", "lo ose"]:
            for rest in [":", ": ", ": take 1", ": take 1; take 2", ":take 1", ": take 1: take 2", ": watch:", "::"]:
                self.refused(word + rest, NoProgram)

    def test_a_blank_or_line_feed_about_the_word(self):
        for word in WORDS:
            for wrong in [" " + word, word + " ", "  " + word, "\n" + word, word + "\n", word + "\t"]:
                for rest in [":", ": take 1"]:
                    self.refused(wrong + rest, NoProgram)

    def test_no_blank_behind_the_colon(self):
        for word in WORDS:
            for rest in ["take 1", "\n", "\n take 1", "\ttake 1", ";", "; ", "; take 1", "a", "1", "take 1; take 2"]:
                self.refused(f"{word}:{rest}", NoProgram)

    def test_two_colons(self):
        for word in WORDS:
            self.refused(f"{word}::", NoProgram)
            self.refused(f"{word}:: take 1", NoProgram)
            self.refused(f"{word}:{word}: take 1", NoProgram)
            self.refused(f"{word}: :", NoDeed)
            self.refused(f"{word}: {word}:", NoDeed)
            self.refused(f"{word}: {word}: take 1", NoDeed)
            self.refused(f"{word}: take 1:", NoDeed)
            self.refused(f"{word}: take 1; take: 1", NoDeed)

    def test_more_than_forty_parts(self):
        for word in WORDS:
            for many in (41, 42, 80, 400):
                self.refused(word + ": " + "; ".join(["take 1"] * many), NoProgram)

    def test_no_program_ahead_of_no_deed(self):
        deeds = ["take 1"] * 40
        for place in range(41):
            for wrong in ["", "take", "no deed", " take 1", ":", ";", "take 1;take 1"]:
                self.refused("watch: " + "; ".join(deeds[:place] + [wrong] + deeds[place:]), NoProgram)
        for text in ["watch: " + "; " * 40, "watch: " + "; ".join(["no"] * 41), "wach: no deed", "watch:no deed"]:
            self.refused(text, NoProgram)
        self.refused("watch; no deed", NoProgram)

    def test_forty_parts_of_which_one_is_no_deed(self):
        deeds = ["take 1"] * 39
        for place in range(40):
            for wrong in ["", "take", "no deed", " take 1", ":", ";", "take 1;take 1"]:
                self.refused("watch: " + "; ".join(deeds[:place] + [wrong] + deeds[place:]), NoDeed)
        self.refused("watch: " + "; " * 39, NoDeed)


class NoDeedTest(ProgramTest):
    def test_one_empty_part(self):
        for word in WORDS:
            self.refused(word + ": ", NoDeed)

    def test_an_empty_part_at_either_end_and_amid(self):
        for word in WORDS:
            for rest in ["; ", "; take 1", "take 1; ", "take 1; ; take 2", "; ; ", "; take 1; ", "take 1; ; "]:
                self.refused(f"{word}: {rest}", NoDeed)

    def test_two_blanks(self):
        for rest in [" take 1", "  take 1", " ", "take 1;  take 2", "take 1 ; take 2", "take 1; take 2 ", "take  1"]:
            self.refused(f"hold: {rest}", NoDeed)

    def test_a_semicolon_without_a_blank(self):
        for rest in ["take 1;take 2", "take 1;", ";", ";;", ";take 1", "take 1;; take 2", "take 1;\ntake 2"]:
            self.refused(f"loose: {rest}", NoDeed)

    def test_parts_that_are_no_deeds(self):
        wrong = ["read", "read Z 1", "put 1", "take 007", "take -0", "take " + "1" * 31, "skip a b 0", "skip a b 41"]
        for part in wrong + ["let a b * c", "stop 1", "watch", "take 1\n", "\ntake 1", "\n", "TAKE 1", "none"]:
            self.refused(f"kept: {part}", NoDeed)
            self.refused(f"kept: take 1; {part}", NoDeed)
            self.refused(f"kept: {part}; take 1", NoDeed)
            self.refused(f"kept: take 1; {part}; take 1", NoDeed)


class AllTextsTest(ProgramTest):
    def come_of(self, text):
        wanted = asked_for(text)
        if wanted in (NoProgram, NoDeed):
            self.refused(text, wanted)
        else:
            self.assertEqual(read_program(text), wanted)
            self.assertEqual(show_program(read_program(text)), text)

    def test_texts_with_one_sign_otherwise(self):
        for text in ["hold:", "make: take 1", "kept: read a 5; let a a - -1; put 5 a", "watch: stop 1 2; take -3"]:
            for place in range(len(text) + 1):
                self.come_of(text[:place] + text[place + 1:])
                for sign in SIGNS:
                    self.come_of(text[:place] + sign + text[place:])
                    self.come_of(text[:place] + sign + text[place + 1:])

    def test_every_begin_and_every_end_of_a_text(self):
        text = "watch: read a 5; let a a - -1; put 5 a"
        for place in range(len(text) + 1):
            self.come_of(text[:place])
            self.come_of(text[place:])

    def test_long_texts(self):
        for text in [":" * 4000, " " * 4000, "; " * 2000, "watch: " + "; " * 1996, "watch: " + "a" * 3993]:
            self.come_of(text)


class HandedInTest(unittest.TestCase):
    def test_what_is_shown_stays_as_it_was(self):
        for deeds in LISTS:
            program = ("watch", list(deeds))
            before = copy.deepcopy(program)
            show_program(program)
            self.assertEqual(program, before)

    def test_what_was_read_is_the_askers_own(self):
        for text in ["hold:", "hold: take 7"]:
            first = read_program(text)
            before = copy.deepcopy(first)
            first[1].append(("take", 9))
            self.assertEqual(read_program(text), before)
            self.assertIsNot(read_program(text)[1], read_program(text)[1])

    def test_a_program_that_is_changed_is_shown_anew(self):
        program = ("hold", [])
        self.assertEqual(show_program(program), "hold:")
        program[1].append(("take", 9))
        self.assertEqual(show_program(program), "hold: take 9")
        program[1].clear()
        self.assertEqual(show_program(program), "hold:")

    def test_behind_a_refusal_the_answers_are_the_same(self):
        for wrong in ["hold", "hold: ", "hold: take"]:
            self.assertRaises(SkewError, read_program, wrong)
            self.assertEqual(read_program("hold: take 7"), ("hold", [("take", 7)]))


if __name__ == "__main__":
    unittest.main()
