"""Points 2, 71, 76 and 77: reads of what was never kept, and the judge's answers."""

import copy
import inspect
import unittest

from skewhouse.errors import NoLevel
from skewhouse.histories import history, read_history, show_history
from skewhouse.judge import judge, unkept
from tests.helper import NO_WORDS, WORDS, house_of, woven

HUGE = 10 ** 5000

# Both read ahead of the other one's make.
SKEWED = "1 {0}: 5<0\n2 {0}: 6<0\nmake 5: 2\nmake 6: 1"


def judged(text, word=None):
    return judge(read_history(text), word)


class UnkeptTest(unittest.TestCase):
    def test_none(self):
        for text in ["", "1 kept:", "1 hold: -; -", "1 make: 5<0; 5<2\n2 watch:\nmake 5: 2"]:
            for word in WORDS + [None]:
                self.assertIsNone(unkept(read_history(text), word))

    def test_at_each_level(self):
        for own in WORDS:
            past = read_history(f"3 {own}: 5<?")
            self.assertEqual(unkept(past), None if own == "loose" else (3, 0, 5))
            for word in WORDS:
                self.assertEqual(unkept(past, word), None if word == "loose" else (3, 0, 5))

    def test_the_first_by_dealing(self):
        past = read_history("1 loose: 1<?\n4 kept: -; -; 9<?\n5 hold: 1<?\n6 watch: 0<?")
        self.assertEqual(unkept(past), (4, 2, 9))
        self.assertEqual(unkept(past, "make"), (1, 0, 1))

    def test_the_first_by_look(self):
        for word in ["kept", "make", "watch", "hold"]:
            self.assertEqual(unkept(read_history(f"2 {word}: 3<0; -; 3<0 9<?; 1<?; 1<?")), (2, 2, 9))

    def test_the_first_by_key(self):
        self.assertEqual(unkept(read_history("2 kept: -10<0 -9<? 5<? 10<?")), (2, 0, -9))
        self.assertEqual(unkept(([(1, "kept", [[(-HUGE, -1), (HUGE, -1)]])], [])), (1, 0, -HUGE))
        self.assertEqual(unkept(([(1, "kept", [[(-HUGE, 0), (HUGE, -1)]])], [])), (1, 0, HUGE))

    def test_of_a_key_that_others_made(self):
        self.assertEqual(unkept(read_history("1 make: 5<2 6<?\n2 hold: 5<?\nmake 5: 2\nmake 6: 2")), (1, 0, 6))

    def test_of_many_looks(self):
        self.assertEqual(unkept(([(8, "hold", [[]] * 39 + [[(5, -1)]])], [])), (8, 39, 5))


class AnswersTest(unittest.TestCase):
    def test_without_deals(self):
        for word in WORDS + [None]:
            self.assertEqual(judge(([], []), word), ("order", []))

    def test_unkept(self):
        self.assertEqual(judged("1 hold: 6<0\n2 kept: -; 5<?\nmake 6: 1"), ("unkept", 2, 1, 5))

    def test_unkept_comes_ahead_of_a_ring(self):
        ring = "1 hold: 5<0{}\n2 hold: 6<0\n3 hold: {}\nmake 5: 2\nmake 6: 1"
        self.assertEqual(judged(ring.format("", "-"))[0], "ring")
        self.assertEqual(judged(ring.format("", "9<?")), ("unkept", 3, 0, 9))
        self.assertEqual(judged(ring.format(" 6<?", "9<?")), ("unkept", 1, 0, 6))

    def test_unkept_is_let_at_loose(self):
        self.assertEqual(judged("1 loose: 5<?\n2 hold:\nmake 5: 2"), ("order", [(1, 0), (2, 0)]))
        self.assertEqual(judged("1 hold: 5<?\n2 hold:\nmake 5: 2", "loose"), ("order", [(1, 0), (2, 0)]))
        self.assertEqual(judged("1 loose: 5<?\n2 hold:\nmake 5: 2", "kept"), ("unkept", 1, 0, 5))

    def test_a_ring_at_loose(self):
        self.assertEqual(judged("1 loose: 9<?\n2 loose: 9<?\nmake 5: 1 2\nmake 6: 2 1"), ("ring", [
            ((1, 0), (2, 0), "over", 5), ((2, 0), (1, 0), "over", 6),
        ]))

    def test_order(self):
        self.assertEqual(judged("1 hold: 5<2\n2 make: -\n3 kept: -\nmake 5: 2"), ("order", [
            (2, 0), (2, 1), (1, 0), (3, 0), (3, 1),
        ]))
        self.assertEqual(judged("1 kept: 5<0; 5<3\n3 loose:\nmake 5: 3"), ("order", [(1, 0), (3, 0), (1, 1), (1, 2)]))

    def test_always_the_least_spot_comes_next(self):
        self.assertEqual(judged("1 watch: 5<4\n2 make:\n3 kept: -\n4 hold:\nmake 5: 4"), ("order", [
            (2, 0), (2, 1), (3, 0), (3, 1), (4, 0), (1, 0),
        ]))

    def test_own_looks_and_an_own_make(self):
        for word in ["kept", "make", "watch", "hold"]:
            self.assertEqual(judged(f"1 {word}: 5<0\nmake 5: 1")[0], "order")

    def test_at_each_word(self):
        order = [(1, 0), (2, 0), (1, 1), (2, 1)]
        ring = [((1, 0), (2, 0), "unseen", 5), ((2, 0), (1, 0), "unseen", 6)]
        answers = {
            "loose": ("order", [(1, 0), (2, 0)]), "kept": ("order", order), "make": ("order", order),
            "watch": ("ring", ring), "hold": ("ring", ring),
        }
        for own in WORDS:
            self.assertEqual(judged(SKEWED.format(own)), answers[own])
            for word in WORDS:
                self.assertEqual(judged(SKEWED.format(own), word), answers[word])

    def test_one_of_two_below_watch(self):
        self.assertEqual(judged("1 watch: 5<0\n2 make: 6<0\nmake 5: 2\nmake 6: 1"), ("order", [(2, 0), (1, 0), (2, 1)]))


class RingTest(unittest.TestCase):
    def test_from_its_least_spot_on(self):
        text = "1 hold:\n2 hold: 5<4\n3 hold: 6<2\n4 hold: 7<3\nmake 5: 4\nmake 6: 2\nmake 7: 3"
        self.assertEqual(judged(text), ("ring", [
            ((2, 0), (3, 0), "saw", 6), ((3, 0), (4, 0), "saw", 7), ((4, 0), (2, 0), "saw", 5),
        ]))
        text = "2 hold: 5<3\n3 hold: 6<4\n4 hold: 7<2\nmake 5: 3\nmake 6: 4\nmake 7: 2"
        self.assertEqual(judged(text), ("ring", [
            ((2, 0), (4, 0), "saw", 7), ((4, 0), (3, 0), "saw", 6), ((3, 0), (2, 0), "saw", 5),
        ]))

    def test_the_first_edge_between_two_spots(self):
        text = "1 hold: {}\n2 hold: {}\nmake 3: 1 2\nmake 4: 2\nmake 5: 2\nmake 6: 1\nmake 7: 1"
        rings = [
            ("4<2", "-", ("over", 3), ("saw", 4)), ("4<2", "7<1", ("saw", 7), ("saw", 4)),
            ("4<2", "6<1 7<1", ("saw", 6), ("saw", 4)), ("4<2 5<0", "-", ("unseen", 5), ("saw", 4)),
            ("4<2 5<2", "6<0 7<0", ("over", 3), ("saw", 4)), ("4<0 5<0", "6<0 7<0", ("unseen", 4), ("unseen", 6)),
        ]
        for look, other_look, there, back in rings:
            answer = judged(text.format(look, other_look))
            self.assertEqual(answer, ("ring", [((1, 0), (2, 0)) + there, ((2, 0), (1, 0)) + back]))

    def test_with_own_edges(self):
        self.assertEqual(judged("1 kept: 5<2; 5<0\n2 hold:\nmake 5: 2"), ("ring", [
            ((1, 0), (1, 1), "own", None), ((1, 1), (2, 0), "unseen", 5), ((2, 0), (1, 0), "saw", 5),
        ]))
        self.assertEqual(judged("1 hold: 6<2\n2 make: 5<1\nmake 5: 1\nmake 6: 2"), ("ring", [
            ((1, 0), (2, 0), "saw", 5), ((2, 0), (2, 1), "own", None), ((2, 1), (1, 0), "saw", 6),
        ]))

    def test_own_spots_that_are_not_neighbours(self):
        # From the first look of 1 to its last: the look between them is passed over.
        self.assertEqual(judged("1 kept: 5<2; -; 5<0\n2 hold:\nmake 5: 2"), ("ring", [
            ((1, 0), (1, 2), "own", None), ((1, 2), (2, 0), "unseen", 5), ((2, 0), (1, 0), "saw", 5),
        ]))

    def test_makers_that_are_not_neighbours(self):
        # From 1 to 3 at once, not by 2, which made the key between them.
        text = "1 hold: 6<3\n2 hold:\n3 hold:\nmake 5: 1 2 3\nmake 6: 3"
        self.assertEqual(judged(text), ("ring", [((1, 0), (3, 0), "over", 5), ((3, 0), (1, 0), "saw", 6)]))

    def test_the_fewest_spots(self):
        text = "1 hold: 5<3\n2 hold: 6<1\n3 hold: 7<2\n6 hold: 8<0\n7 hold: 9<0\n" \
            "make 5: 3\nmake 6: 1\nmake 7: 2\nmake 8: 7\nmake 9: 6"
        self.assertEqual(judged(text), ("ring", [((6, 0), (7, 0), "unseen", 8), ((7, 0), (6, 0), "unseen", 9)]))

    def test_a_make_that_was_lost(self):
        text = "1 {0}: 5<0\n2 {0}: 5<0\nmake 5: 1 2"
        self.assertEqual(judged(text.format("kept")), ("order", [(1, 0), (2, 0), (1, 1), (2, 1)]))
        self.assertEqual(judged(text.format("make")), ("ring", [((1, 1), (2, 0), "over", 5), ((2, 0), (1, 1), "unseen", 5)]))
        for word in ["watch", "hold"]:
            ring = [((1, 0), (2, 0), "unseen", 5), ((2, 0), (1, 0), "unseen", 5)]
            self.assertEqual(judged(text.format(word)), ("ring", ring))

    def test_a_look_that_found_a_later_make_than_its_own(self):
        self.assertEqual(judged("1 kept: 5<2\n2 kept:\nmake 5: 1 2"), ("ring", [
            ((1, 0), (1, 1), "own", None), ((1, 1), (2, 0), "over", 5), ((2, 0), (1, 0), "saw", 5),
        ]))

    def test_keys_of_many_figures(self):
        past = ([(1, "hold", [[(-HUGE, 0)]]), (2, "hold", [[(HUGE, 0)]])], [(-HUGE, [2]), (HUGE, [1])])
        ring = [((1, 0), (2, 0), "unseen", -HUGE), ((2, 0), (1, 0), "unseen", HUGE)]
        self.assertEqual(judge(past), ("ring", ring))
        self.assertEqual(judge(past, "make"), ("order", [(1, 0), (2, 0), (1, 1), (2, 1)]))


class NoLevelTest(unittest.TestCase):
    def test_words_that_are_no_levels(self):
        past = read_history("1 kept: 5<2; 9<?\n2 hold:\nmake 5: 2")
        for word in NO_WORDS:
            for each in [past, ([], []), read_history(SKEWED.format("hold"))]:
                self.assertRaises(NoLevel, unkept, each, word)
                self.assertRaises(NoLevel, judge, each, word)

    def test_ahead_of_everything_else(self):
        for each in [None, (), 7]:
            self.assertRaises(NoLevel, unkept, each, "Kept")
            self.assertRaises(NoLevel, judge, each, "Kept")

    def test_arguments(self):
        for function, answer in [(unkept, None), (judge, ("order", []))]:
            found = inspect.signature(function).parameters
            self.assertEqual(list(found), ["history", "word"])
            self.assertIsNone(found["word"].default)
            self.assertEqual(function(word="make", history=([], [])), answer)


class AskedAgainTest(unittest.TestCase):
    TEXTS = [SKEWED.format("hold"), SKEWED.format("kept"), "1 kept: 5<?\n2 make: 6<0; 6<1\nmake 5: 2\nmake 6: 1 2"]

    def test_nothing_is_changed(self):
        for text in self.TEXTS:
            past = read_history(text)
            for word in WORDS + [None]:
                self.assertEqual(unkept(past, word), unkept(past, word))
                self.assertEqual(judge(past, word), judge(past, word))
            self.assertEqual(past, read_history(text))

    def test_the_lists_are_the_askers_own(self):
        for text in self.TEXTS[:2]:
            past = read_history(text)
            answer = judge(past)
            before = copy.deepcopy(answer)
            answer[1].clear()
            self.assertEqual(judge(past), before)
            self.assertEqual(past, read_history(text))

    def test_what_is_handed_in_changes_later(self):
        for text in self.TEXTS:
            past = read_history(text)
            answer = judge(past)
            before = copy.deepcopy(answer)
            past[0].clear()
            past[1].clear()
            self.assertEqual(answer, before)

    def test_kinds(self):
        for text, many in zip(self.TEXTS, [2, 2, 4]):
            answer = judged(text)
            self.assertIs(answer.__class__, tuple)
            self.assertEqual(len(answer), many)
        self.assertIs(judged(self.TEXTS[0])[1].__class__, list)
        self.assertIs(judged(self.TEXTS[1])[1].__class__, list)
        self.assertIs(unkept(read_history(self.TEXTS[2])).__class__, tuple)


class ProgramsTest(unittest.TestCase):
    """Points 18, 59 and 61 to 66, as far as the judge meets them: from the texts of programs to the answer."""

    TEXTS = ["{}: read a 5; let a a + 1; put 5 a", "{}: read a 5; let a a + 1; put 5 a"]

    def test_a_make_lost_at_kept(self):
        house = woven({5: 50}, [text.format("kept") for text in self.TEXTS], [1, 2] + [1] * 3 + [2] * 3)
        past = read_history(show_history(history(house)))
        self.assertEqual(show_history(past), "1 kept: 5<0\n2 kept: 5<0\nmake 5: 1 2")
        self.assertEqual(judge(past), ("order", [(1, 0), (2, 0), (1, 1), (2, 1)]))
        self.assertEqual(judge(past), ("order", house.order()))
        self.assertEqual(judge(past, "make"), ("ring", [((1, 1), (2, 0), "over", 5), ((2, 0), (1, 1), "unseen", 5)]))
        self.assertEqual(judge(past, "hold"), ("ring", [((1, 0), (2, 0), "unseen", 5), ((2, 0), (1, 0), "unseen", 5)]))

    def test_never_kept_at_loose(self):
        texts = ["loose: read a 5", "kept: put 5 51; stop 0 1"]
        house = woven({5: 50}, texts, [2, 1, 1, 2])
        past = read_history(show_history(history(house)))
        self.assertEqual(show_history(past), "1 loose: 5<?")
        self.assertEqual(judge(past), ("order", [(1, 0)]))
        self.assertEqual(judge(past, "kept"), ("unkept", 1, 0, 5))

    def test_before_the_end(self):
        house = house_of({5: 50}, *[text.format("watch") for text in self.TEXTS])
        self.assertEqual(judge(history(house)), ("order", []))
        house.weave([1, 2, 1, 1])
        self.assertEqual(judge(history(house)), ("order", []))
        house.weave([1])
        self.assertEqual(judge(history(house)), ("order", [(1, 0)]))
        house.rest()
        self.assertEqual(judge(history(house)), ("order", [(1, 0)]))

    def test_numbers_of_more_figures_than_are_read(self):
        nines = "9" * 30
        doubled = "hold: let k " + nines + " + 1; " + "let k k + k; " * 30
        texts = [doubled + "read a k", doubled + "put k 1"]
        house = woven({}, texts, [1] * 33 + [2] * 33)
        key = 10 ** 30 * 2 ** 30
        self.assertEqual(history(house), ([(1, "hold", [[(key, 0)]]), (2, "hold", [])], [(key, [2])]))
        self.assertEqual(judge(history(house)), ("order", [(1, 0), (2, 0)]))
        later = ([(1, "hold", [[(key, 2)]]), (2, "hold", [])], [(key, [2])])
        self.assertEqual(judge(later), ("order", [(2, 0), (1, 0)]))


if __name__ == "__main__":
    unittest.main()
