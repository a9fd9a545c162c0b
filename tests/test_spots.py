"""Points 2, 51 and 71 to 73: the spots of a history and its edges."""

import copy
import inspect
import random
import unittest

from skewhouse.errors import NoLevel
from skewhouse.histories import history, read_history
from skewhouse.spots import edges, spots
from tests.helper import NO_WORDS, WORDS, drawn_history, drawn_house, edges_of, spots_of

HUGE = 10 ** 5000


def told(text, word=None):
    return edges(read_history(text), word)


def of_kind(why, text, word=None):
    return [edge for edge in told(text, word) if edge[2] == why]


def without_own(text, word=None):
    return [edge for edge in told(text, word) if edge[2] != "own"]


class SpotsTest(unittest.TestCase):
    def test_without_deals(self):
        self.assertEqual(spots(([], [])), [])
        for word in WORDS:
            self.assertEqual(spots(([], []), word), [])

    def test_without_looks(self):
        for word, places in {"loose": [0], "kept": [0], "make": [0, 1], "watch": [0], "hold": [0]}.items():
            found = [(1, place) for place in places]
            self.assertEqual(spots(([(1, word, [])], [])), found)
            self.assertEqual(spots(([(1, "kept", [])], []), word), found)

    def test_with_looks(self):
        for looks in [1, 2, 3, 40]:
            many = {"loose": 1, "kept": looks + 1, "make": 2, "watch": 1, "hold": 1}
            for word in WORDS:
                found = [(3, place) for place in range(many[word])]
                self.assertEqual(spots(([(3, word, [[]] * looks)], [])), found)
                for own in WORDS:
                    self.assertEqual(spots(([(3, own, [[]] * looks)], []), word), found)

    def test_all_levels_beside_each_other(self):
        past = read_history("1 loose: -; -\n2 kept: 5<0; -\n3 make: -; 5<?\n5 watch: -; -\n8 hold: 5<0; -")
        found = [(1, 0), (2, 0), (2, 1), (2, 2), (3, 0), (3, 1), (5, 0), (8, 0)]
        self.assertEqual(spots(past), found)
        self.assertEqual(spots(past, None), found)
        numbers = [1, 2, 3, 5, 8]
        for word, many in {"loose": 1, "kept": 3, "make": 2, "watch": 1, "hold": 1}.items():
            self.assertEqual(spots(past, word), [(number, place) for number in numbers for place in range(many)])

    def test_numbers_that_do_not_follow_one_another(self):
        self.assertEqual(spots(read_history("2 make:\n7 kept: -\n8 loose:")), [(2, 0), (2, 1), (7, 0), (7, 1), (8, 0)])

    def test_they_rise_by_number_and_place(self):
        past = ([(number, "kept", [[]] * 40) for number in range(1, 9)], [])
        found = spots(past)
        self.assertEqual(found, sorted(found))
        self.assertEqual(len(found), 8 * 41)

    def test_arguments(self):
        for function in [spots, edges]:
            found = inspect.signature(function).parameters
            self.assertEqual(list(found), ["history", "word"])
            self.assertIsNone(found["word"].default)
            self.assertEqual(function(word="make", history=([], [])), [])


class NoLevelTest(unittest.TestCase):
    def test_words_that_are_no_levels(self):
        past = read_history("1 kept: 5<2; 9<?\n2 hold:\nmake 5: 2")
        for word in NO_WORDS:
            for each in [past, ([], [])]:
                self.assertRaises(NoLevel, spots, each, word)
                self.assertRaises(NoLevel, edges, each, word)

    def test_ahead_of_everything_else(self):
        for each in [None, (), 7, ([(1, "kept", [[(5, 3)]])], [])]:
            self.assertRaises(NoLevel, spots, each, "Kept")
            self.assertRaises(NoLevel, edges, each, "Kept")


class OwnTest(unittest.TestCase):
    def test_from_each_spot_to_each_later_one(self):
        self.assertEqual(told("4 kept: -; -"), [
            ((4, 0), (4, 1), "own", None), ((4, 0), (4, 2), "own", None), ((4, 1), (4, 2), "own", None),
        ])
        self.assertEqual(told("4 make: -; -; -"), [((4, 0), (4, 1), "own", None)])

    def test_never_between_two_dealings(self):
        self.assertEqual(told("1 make:\n2 make:"), [((1, 0), (1, 1), "own", None), ((2, 0), (2, 1), "own", None)])

    def test_a_single_spot_has_none(self):
        for word in ["loose", "watch", "hold"]:
            self.assertEqual(told("1 make: -; -\n2 kept: -", word), [])
        self.assertEqual(told("1 kept:"), [])
        self.assertEqual(told(""), [])

    def test_of_many_spots(self):
        found = edges(([(1, "kept", [[]] * 40)], []))
        pairs = [((1, place), (1, later), "own", None) for place in range(41) for later in range(place + 1, 41)]
        self.assertEqual(found, pairs)


class SawTest(unittest.TestCase):
    def test_from_the_keep_of_the_source(self):
        for word in ["watch", "hold"]:
            self.assertEqual(told("1 loose:\n2 kept: 5<1\nmake 5: 1", word), [((1, 0), (2, 0), "saw", 5)])
        self.assertEqual(of_kind("saw", "1 make:\n2 make: 5<1\nmake 5: 1"), [((1, 1), (2, 0), "saw", 5)])
        self.assertEqual(of_kind("saw", "1 kept: -; -\n2 kept: -; 5<1\nmake 5: 1"), [((1, 2), (2, 1), "saw", 5)])

    def test_from_the_makers_ahead_of_the_source_too(self):
        text = "1 hold:\n2 hold:\n3 hold:\n4 hold: 5<1\nmake 5: 3 1 2"
        self.assertEqual(of_kind("saw", text), [((1, 0), (4, 0), "saw", 5), ((3, 0), (4, 0), "saw", 5)])
        text = "1 hold:\n2 hold:\n3 hold:\n4 hold: 5<3\nmake 5: 3 1 2"
        self.assertEqual(of_kind("saw", text), [((3, 0), (4, 0), "saw", 5)])

    def test_never_from_the_dealing_that_looks(self):
        for word in ["kept", "make", "watch", "hold"]:
            text = "1 hold:\n2 hold: 5<3\n3 hold:\nmake 5: 1 2 3"
            sources = [edge[0][0] for edge in of_kind("saw", text, word)]
            self.assertEqual(sources, [1, 3], word)

    def test_a_source_at_loose(self):
        self.assertEqual(told("1 loose: -; -\n2 watch: 5<1\nmake 5: 1"), [((1, 0), (2, 0), "saw", 5)])

    def test_each_look_at_kept_has_its_own(self):
        text = "1 hold:\n2 kept: 5<1; 5<1; -; 5<1\nmake 5: 1"
        self.assertEqual(of_kind("saw", text), [((1, 0), (2, place), "saw", 5) for place in [0, 1, 3]])


class UnseenTest(unittest.TestCase):
    def test_to_all_makers_behind_the_source(self):
        text = "1 hold: 5<3\n2 hold:\n3 hold:\n4 hold:\n6 hold:\nmake 5: 6 3 4 2"
        self.assertEqual(of_kind("unseen", text), [((1, 0), (2, 0), "unseen", 5), ((1, 0), (4, 0), "unseen", 5)])

    def test_to_each_maker_where_the_source_is_the_start(self):
        text = "1 hold: 5<0\n2 hold:\n3 make:\n4 kept: -\nmake 5: 4 2 3"
        self.assertEqual(of_kind("unseen", text), [
            ((1, 0), (2, 0), "unseen", 5), ((1, 0), (3, 1), "unseen", 5), ((1, 0), (4, 1), "unseen", 5),
        ])

    def test_the_last_source_leaves_none(self):
        self.assertEqual(of_kind("unseen", "1 hold: 5<3\n2 hold:\n3 hold:\nmake 5: 2 3"), [])

    def test_never_to_the_dealing_that_looks(self):
        for word in ["kept", "make", "watch", "hold"]:
            text = "1 hold:\n2 hold: 5<0\n3 hold:\nmake 5: 1 2 3"
            others = [edge[1][0] for edge in of_kind("unseen", text, word)]
            self.assertEqual(others, [1, 3], word)
            self.assertEqual(of_kind("unseen", "2 hold: 5<0\nmake 5: 2", word), [])

    def test_from_the_spot_of_each_look(self):
        text = "1 {}: 5<0; -; 5<0\n2 hold:\nmake 5: 2"
        for word, places in {"loose": [], "kept": [0, 2], "make": [0], "watch": [0], "hold": [0]}.items():
            found = of_kind("unseen", text.format(word))
            self.assertEqual(found, [((1, place), (2, 0), "unseen", 5) for place in places])

    def test_saw_and_unseen_of_one_pair(self):
        self.assertEqual(without_own("1 hold:\n2 make: 5<1\n3 hold:\nmake 5: 1 3"), [
            ((1, 0), (2, 0), "saw", 5), ((1, 0), (3, 0), "over", 5), ((2, 0), (3, 0), "unseen", 5),
        ])


class OverTest(unittest.TestCase):
    def test_from_each_maker_to_each_later_one(self):
        self.assertEqual(told("1 hold:\n2 watch:\n3 loose:\n4 kept:\nmake 5: 3 1 4 2"), [
            ((1, 0), (2, 0), "over", 5), ((1, 0), (4, 0), "over", 5),
            ((3, 0), (1, 0), "over", 5), ((3, 0), (2, 0), "over", 5), ((3, 0), (4, 0), "over", 5),
            ((4, 0), (2, 0), "over", 5),
        ])

    def test_from_the_keep_to_the_first_spot(self):
        text = "1 loose: -; -\n2 loose: -; -; -\nmake 5: 1 2"
        spots_by_word = {
            "loose": ((1, 0), (2, 0)), "kept": ((1, 2), (2, 3)), "make": ((1, 1), (2, 0)),
            "watch": ((1, 0), (2, 0)), "hold": ((1, 0), (2, 0)),
        }
        for word, found in spots_by_word.items():
            self.assertEqual(of_kind("over", text, word), [found + ("over", 5)], word)

    def test_one_maker_has_none(self):
        for word in ["loose", "watch", "hold"]:
            self.assertEqual(told("1 make: -\n2 kept:\nmake 5: 1\nmake 6: 2", word), [])

    def test_looks_at_loose_count_for_nothing_but_makes_do(self):
        text = "1 hold: 5<2\n2 hold: 5<?; 6<1\nmake 5: 2 1\nmake 6: 1"
        self.assertEqual(told(text, "loose"), [((2, 0), (1, 0), "over", 5)])


class NoEdgesTest(unittest.TestCase):
    def test_what_was_never_kept(self):
        self.assertEqual(told("1 hold: 5<? 7<?\n2 hold:\nmake 5: 2"), [])

    def test_a_key_that_nobody_made(self):
        self.assertEqual(told("1 hold: 4<0 6<?\n2 hold: 4<0\nmake 5: 2"), [])

    def test_a_look_at_loose(self):
        self.assertEqual(told("1 loose: 5<0; 5<2; 5<?\n2 hold:\nmake 5: 2\nmake 7: 1"), [])
        self.assertEqual(told("1 hold: 5<0; 5<2\n2 hold:\nmake 5: 2", "loose"), [])

    def test_an_empty_look(self):
        self.assertEqual(told("1 hold: -\n2 hold: -; -\nmake 5: 2"), [])


class OrderTest(unittest.TestCase):
    def test_by_the_first_spot_then_the_other(self):
        past = read_history("1 make: 5<3\n2 kept: 6<1; 5<0\n3 make: 6<0\nmake 5: 3 2\nmake 6: 1 3")
        found = edges(past)
        self.assertEqual([edge[:2] for edge in found], sorted(edge[:2] for edge in found))
        self.assertEqual(found, edges_of(past))

    def test_kinds_between_the_same_two_spots(self):
        text = "1 hold: 5<0 7<2 8<0\n2 hold: 6<1\nmake 3: 1 2\nmake 5: 2\nmake 6: 1\nmake 7: 2\nmake 8: 2\nmake 9: 1 2"
        self.assertEqual(told(text), [
            ((1, 0), (2, 0), "saw", 6), ((1, 0), (2, 0), "unseen", 5), ((1, 0), (2, 0), "unseen", 8),
            ((1, 0), (2, 0), "over", 3), ((1, 0), (2, 0), "over", 9), ((2, 0), (1, 0), "saw", 7),
        ])

    def test_own_comes_first(self):
        found = told("1 make: 5<0\n2 hold:\nmake 5: 2 1")
        self.assertEqual(found, [
            ((1, 0), (1, 1), "own", None), ((1, 0), (2, 0), "unseen", 5), ((2, 0), (1, 0), "over", 5),
        ])

    def test_keys_as_numbers_are_compared(self):
        keys = [-HUGE, -10, -9, 0, 9, 10, HUGE]
        past = ([(1, "hold", [[(key, 0) for key in keys]]), (2, "hold", [])], [(key, [2]) for key in keys])
        self.assertEqual(edges(past), [((1, 0), (2, 0), "unseen", key) for key in keys])
        past = ([(1, "hold", [[(key, 2) for key in keys]]), (2, "hold", [])], [(key, [2]) for key in keys])
        self.assertEqual(edges(past), [((2, 0), (1, 0), "saw", key) for key in keys])
        past = ([(1, "hold", []), (2, "hold", [])], [(key, [2, 1]) for key in keys])
        self.assertEqual(edges(past), [((2, 0), (1, 0), "over", key) for key in keys])

    def test_places_as_numbers_are_compared(self):
        past = ([(1, "hold", []), (2, "kept", [[(5, 1)]] * 12)], [(5, [1])])
        found = [edge for edge in edges(past) if edge[2] == "saw"]
        self.assertEqual(found, [((1, 0), (2, place), "saw", 5) for place in range(12)])

    def test_each_once(self):
        text = "1 {}: 5<0; 5<0; 6<3; 5<0 6<3\n2 hold:\n3 hold:\nmake 5: 2\nmake 6: 3"
        for word in ["make", "watch", "hold"]:
            found = without_own(text.format(word))
            self.assertEqual(found, [((1, 0), (2, 0), "unseen", 5), ((3, 0), (1, 0), "saw", 6)])

    def test_of_two_looks_of_one_spot_with_unlike_sources(self):
        self.assertEqual(without_own("1 make: 5<0; 5<2\n2 hold:\nmake 5: 2"), [
            ((1, 0), (2, 0), "unseen", 5), ((2, 0), (1, 0), "saw", 5),
        ])


class AskedAgainTest(unittest.TestCase):
    def past(self):
        return read_history("1 kept: 5<0; 5<2 6<3\n2 make: 6<?\n3 hold: 5<2; 5<0\nmake 5: 2 1\nmake 6: 3 2")

    def test_nothing_is_changed(self):
        past = self.past()
        for word in WORDS + [None]:
            spots(past, word)
            edges(past, word)
        self.assertEqual(past, self.past())

    def test_the_lists_are_the_askers_own(self):
        past = self.past()
        for function in [spots, edges]:
            for word in WORDS + [None]:
                found = function(past, word)
                before = copy.deepcopy(found)
                self.assertNotEqual(found, [])
                found.clear()
                self.assertEqual(function(past, word), before)
        self.assertEqual(past, self.past())

    def test_what_is_handed_in_changes_later(self):
        past = self.past()
        found_spots, found_edges = spots(past), edges(past)
        before = copy.deepcopy((found_spots, found_edges))
        past[0][0][2][0].clear()
        past[0].pop()
        past[1].clear()
        self.assertEqual((found_spots, found_edges), before)

    def test_kinds(self):
        past = self.past()
        for edge in edges(past):
            self.assertIs(edge.__class__, tuple)
            self.assertEqual([part.__class__ for part in edge[:3]], [tuple, tuple, str])
        self.assertTrue(all(spot.__class__ is tuple for spot in spots(past)))
        self.assertIs(spots(past).__class__, list)
        self.assertIs(edges(past).__class__, list)


class SecondAccountTest(unittest.TestCase):
    def test_drawn_histories(self):
        kinds = dict.fromkeys(["own", "saw", "unseen", "over"], 0)
        for seed in range(600):
            past = drawn_history(random.Random(seed))
            before = copy.deepcopy(past)
            for word in WORDS + [None]:
                self.assertEqual(spots(past, word), spots_of(past, word), (seed, word))
                found = edges(past, word)
                self.assertEqual(found, edges_of(past, word), (seed, word))
                for edge in found:
                    kinds[edge[2]] += 1
            self.assertEqual(past, before)
        self.assertGreater(min(kinds.values()), 1000)

    def test_drawn_houses(self):
        for seed in range(60):
            past = history(drawn_house(seed, dealings=4, most=6))
            for word in WORDS + [None]:
                self.assertEqual(spots(past, word), spots_of(past, word), (seed, word))
                self.assertEqual(edges(past, word), edges_of(past, word), (seed, word))


if __name__ == "__main__":
    unittest.main()
