"""Points 2, 83, 84 and 85: the ills of a history, and which of them the levels let."""

import copy
import inspect
import itertools
import random
import unittest

from skewhouse.histories import history, read_history
from skewhouse.house import House
from skewhouse.ills import ills, unlet
from skewhouse.judge import judge
from skewhouse.weavings import first_weaving, how_many
from tests.helper import WORDS, drawn, drawn_history, house_of, ills_of, programs_of, unlet_of, woven

HUGE = 10 ** 5000
SERIAL = ("watch", "hold")


def ills_in(text):
    return ills(read_history(text))


class LostTest(unittest.TestCase):
    def test_right_is_the_start(self):
        self.assertEqual(ills_in("1 kept: 5<2\n2 kept:\nmake 5: 1 2"), [("lost", 1, 0, 5)])
        self.assertEqual(ills_in("1 kept: 5<0\n2 kept:\nmake 5: 1 2"), [])
        self.assertEqual(ills_in("1 kept: 5<0\nmake 5: 1"), [])

    def test_right_is_a_maker(self):
        self.assertEqual(ills_in("1 kept:\n2 kept: 5<0\nmake 5: 1 2"), [("lost", 2, 1, 5)])
        self.assertEqual(ills_in("1 kept:\n2 kept: 5<1\nmake 5: 1 2"), [])

    def test_the_maker_right_ahead_alone(self):
        text = "1 kept:\n2 kept:\n3 kept: 5<{}\n4 kept:\nmake 5: 2 1 3 4"
        self.assertEqual(ills_in(text.format(1)), [])
        for source in [0, 2, 4]:
            self.assertEqual(ills_in(text.format(source)), [("lost", 3, 1, 5)])

    def test_what_was_never_kept_is_another_one(self):
        self.assertEqual(ills_in("1 kept: 5<?\nmake 5: 1"), [("lost", 1, 0, 5), ("unkept", 1, 5)])
        self.assertEqual(ills_in("1 kept:\n2 kept: 5<?\nmake 5: 1 2"), [("lost", 2, 1, 5), ("unkept", 2, 5)])

    def test_only_a_key_that_it_made(self):
        self.assertEqual(ills_in("1 kept: 5<0\n2 kept: 6<0\nmake 5: 2\nmake 6: 2"), [])
        self.assertEqual(ills_in("1 kept:\n2 kept: 5<0\n3 kept:\nmake 5: 1 3"), [])

    def test_only_a_key_that_it_looked_at(self):
        self.assertEqual(ills_in("1 kept:\n2 kept:\nmake 5: 1 2"), [])
        self.assertEqual(ills_in("1 kept:\n2 kept: -; 6<0\nmake 5: 1 2"), [])

    def test_some_look_is_enough(self):
        wanted = [("lost", 2, 1, 5), ("midway", 2, 5)]
        self.assertEqual(ills_in("1 kept:\n2 kept: 5<1; -; 5<0\nmake 5: 1 2"), wanted)
        self.assertEqual(ills_in("1 kept:\n2 kept: 5<0; 5<1\nmake 5: 1 2"), wanted)

    def test_once_for_many_looks(self):
        self.assertEqual(ills_in("1 kept:\n2 kept: 5<0; 5<0; 5<0\nmake 5: 1 2"), [("lost", 2, 1, 5)])

    def test_each_key(self):
        past = ([(1, "make", []), (2, "make", [[(-HUGE, 0), (-3, 0), (HUGE, 0)]])],
                [(-HUGE, [1, 2]), (-3, [1, 2]), (HUGE, [2, 1])])
        self.assertEqual(ills(past), [("lost", 2, 1, -HUGE), ("lost", 2, 1, -3)])


class MidwayTest(unittest.TestCase):
    def test_two_looks(self):
        self.assertEqual(ills_in("1 kept: 5<0; 5<2\n2 kept:\nmake 5: 2"), [("midway", 1, 5)])
        self.assertEqual(ills_in("1 kept: 5<2; -; 6<0; 5<0\n2 kept:\nmake 5: 2"), [("midway", 1, 5)])

    def test_like_sources(self):
        self.assertEqual(ills_in("1 kept: 5<2; 5<2; 5<2\n2 kept:\nmake 5: 2"), [])
        self.assertEqual(ills_in("1 kept: 5<0; 5<0"), [])

    def test_two_keys(self):
        self.assertEqual(ills_in("1 kept: 5<0 6<2; 7<3\n2 kept:\n3 kept:\nmake 6: 2\nmake 7: 3"), [])

    def test_of_two_dealings(self):
        self.assertEqual(ills_in("1 kept: 5<0\n2 kept:\n3 kept: 5<2\nmake 5: 2"), [])

    def test_what_was_never_kept(self):
        self.assertEqual(ills_in("1 loose: 5<?; 5<0"), [("midway", 1, 5), ("unkept", 1, 5)])
        self.assertEqual(ills_in("1 loose: 5<2; 5<?\n2 kept:\nmake 5: 2"), [("midway", 1, 5), ("unkept", 1, 5)])
        # -1 is unlike each other source, so like itself.
        self.assertEqual(ills_in("1 loose: 5<?; 5<?"), [("unkept", 1, 5)])

    def test_once_for_many_looks(self):
        text = "1 kept: 5<0; 5<2; 5<3; 5<0\n2 kept:\n3 kept:\nmake 5: 2 3"
        self.assertEqual(ills_in(text), [("midway", 1, 5)])

    def test_of_a_key_that_it_made_itself(self):
        text = "1 kept: 5<0; 5<2\n2 kept:\nmake 5: 2 1"
        self.assertEqual(ills_in(text), [("lost", 1, 2, 5), ("midway", 1, 5)])

    def test_each_key(self):
        past = ([(4, "hold", [[(-HUGE, 0), (HUGE, 7)], [(-HUGE, 7), (HUGE, 0)]]), (7, "kept", [])],
                [(-HUGE, [7]), (HUGE, [7])])
        self.assertEqual(ills(past), [("midway", 4, -HUGE), ("midway", 4, HUGE)])


class SkewedTest(unittest.TestCase):
    def test_both_at_the_start(self):
        self.assertEqual(ills_in("1 kept: 5<0\n2 kept: 6<0\nmake 5: 2\nmake 6: 1"), [("skewed", 1, 2, 5, 6)])
        self.assertEqual(ills_in("1 kept: 6<0\n2 kept: 5<0\nmake 5: 1\nmake 6: 2"), [("skewed", 1, 2, 6, 5)])

    def test_one_of_them_saw_the_make(self):
        self.assertEqual(ills_in("1 kept: 5<2\n2 kept: 6<0\nmake 5: 2\nmake 6: 1"), [])
        self.assertEqual(ills_in("1 kept: 5<0\n2 kept: 6<1\nmake 5: 2\nmake 6: 1"), [])

    def test_a_maker_ahead(self):
        text = "1 kept: 5<{}\n2 kept: 6<{}\n3 kept:\n4 kept:\nmake 5: 3 2 4\nmake 6: 4 1 3"
        for source, other in itertools.product([0, 2, 3, 4], [0, 1, 3, 4]):
            wanted = [("skewed", 1, 2, 5, 6)] if source in (0, 3) and other in (0, 4) else []
            self.assertEqual(ills_in(text.format(source, other)), wanted, (source, other))

    def test_what_was_never_kept_is_ahead_of_no_maker(self):
        self.assertEqual(ills_in("1 kept: 5<?\n2 kept: 6<0\nmake 5: 2\nmake 6: 1"), [("unkept", 1, 5)])
        self.assertEqual(ills_in("1 kept: 5<0\n2 kept: 6<?\nmake 5: 2\nmake 6: 1"), [("unkept", 2, 6)])

    def test_the_keys_are_unlike(self):
        self.assertEqual(ills_in("1 kept: 5<0\n2 kept: 5<0\nmake 5: 2 1"), [("lost", 1, 2, 5)])
        text = "1 kept: 5<0 6<0\n2 kept: 5<0 6<0\nmake 5: 2 1\nmake 6: 2 1"
        self.assertEqual(ills_in(text), [("lost", 1, 2, 5), ("lost", 1, 2, 6), ("skewed", 1, 2, 5, 6)])

    def test_the_least_key_with_an_unlike_one(self):
        # For 5 there is no other key than 5 itself, so 6 is the least for which it is so.
        text = "1 kept: 5<0 6<0\n2 kept: 5<0\nmake 5: 2 1\nmake 6: 2"
        self.assertEqual(ills_in(text)[-1], ("skewed", 1, 2, 6, 5))

    def test_once_with_the_least_keys(self):
        text = "1 kept: 3<0 5<0\n2 kept: 4<0 6<0\nmake 3: 2\nmake 4: 1\nmake 5: 2\nmake 6: 1"
        self.assertEqual(ills_in(text), [("skewed", 1, 2, 3, 4)])
        text = "1 kept: 5<0 9<0\n2 kept: -4<0 6<0\nmake -4: 1\nmake 5: 2\nmake 6: 1\nmake 9: 2"
        self.assertEqual(ills_in(text), [("skewed", 1, 2, 5, -4)])

    def test_the_least_key_is_seen_by_any_look(self):
        text = "1 kept: 9<0; 5<0; 5<2\n2 kept: -; 6<1; 6<0\nmake 5: 2\nmake 6: 1\nmake 9: 2"
        self.assertEqual(ills_in(text), [("midway", 1, 5), ("midway", 2, 6), ("skewed", 1, 2, 5, 6)])

    def test_each_two_dealings(self):
        deals = "\n".join(f"{number} kept: 1<0 2<0 3<0" for number in [1, 2, 3])
        text = deals + "\nmake 1: 1\nmake 2: 2\nmake 3: 3"
        wanted = [("skewed", 1, 2, 2, 1), ("skewed", 1, 3, 3, 1), ("skewed", 2, 3, 3, 2)]
        self.assertEqual(ills_in(text), wanted)

    def test_keys_of_many_figures(self):
        past = ([(1, "kept", [[(-HUGE - 1, 0), (HUGE, 0)]]), (2, "kept", [[(-HUGE, 0)]])],
                [(-HUGE, [1]), (HUGE, [2])])
        self.assertEqual(ills(past), [("skewed", 1, 2, HUGE, -HUGE)])


class UnkeptTest(unittest.TestCase):
    def test_at_each_level(self):
        for word in WORDS:
            self.assertEqual(ills_in(f"3 {word}: 5<?"), [("unkept", 3, 5)])
            self.assertEqual(ills_in(f"3 {word}: 5<0"), [])

    def test_once_for_many_looks(self):
        self.assertEqual(ills_in("3 loose: 5<?; -; 5<?"), [("unkept", 3, 5)])

    def test_each_key_and_dealing(self):
        wanted = [("unkept", 3, -7), ("unkept", 3, 5), ("unkept", 4, 5)]
        self.assertEqual(ills_in("3 loose: 5<?; -7<? 6<0\n4 hold: 5<?"), wanted)
        past = ([(8, "kept", [[(-HUGE, -1), (HUGE, -1)]])], [])
        self.assertEqual(ills(past), [("unkept", 8, -HUGE), ("unkept", 8, HUGE)])


class AllTest(unittest.TestCase):
    def test_none(self):
        for text in ["", "1 kept:", "1 loose: -; -", "1 watch: 5<0 6<0; 5<0\nmake 5: 1"]:
            self.assertEqual(ills_in(text), [])

    def test_several_of_one_dealing_in_their_order(self):
        text = "1 kept: 5<0 6<?; 5<? 7<0\n2 kept: 4<0\nmake 4: 1\nmake 5: 2 1\nmake 6: 1\nmake 7: 2"
        wanted = [("lost", 1, 0, 6), ("lost", 1, 2, 5), ("midway", 1, 5), ("skewed", 1, 2, 5, 4),
                  ("unkept", 1, 5), ("unkept", 1, 6)]
        self.assertEqual(ills_in(text), wanted)

    def test_the_level_counts_for_nothing(self):
        text = "1 {0}: 5<0 6<?; 5<? 7<0\n2 {1}: 4<0\nmake 4: 1\nmake 5: 2 1\nmake 6: 1\nmake 7: 2"
        wanted = ills_in(text.format("kept", "kept"))
        for one, other in itertools.product(WORDS, repeat=2):
            self.assertEqual(ills_in(text.format(one, other)), wanted)

    def test_against_a_second_account(self):
        kinds = {"lost": 0, "midway": 0, "skewed": 0, "unkept": 0}
        for seed in range(3000):
            past = drawn_history(random.Random(seed), (-1,) if seed % 2 else ())
            found = ills(past)
            self.assertEqual(found, ills_of(past), past)
            self.assertTrue(all(one < other for one, other in zip(found, found[1:])))
            self.assertEqual(unlet(past), unlet_of(past), past)
            for ill in found:
                kinds[ill[0]] += 1
        self.assertGreater(min(kinds.values()), 300, kinds)

    def test_the_biggest_history(self):
        numbers = list(range(1, 9))
        deals = [(number, "kept", [[(key, 0) for key in range(40)]] * 40) for number in numbers]
        past = (deals, [(key, list(numbers)) for key in range(40)])
        wanted = [("lost", number, number - 1, key) for number in numbers[1:] for key in range(40)]
        wanted += [("skewed", one, other, 0, 1) for one, other in itertools.combinations(numbers, 2)]
        self.assertEqual(ills(past), wanted)
        self.assertEqual(unlet(past), [])

    def test_kinds(self):
        found = ills_in("1 hold: 5<0 6<?\n2 kept:\nmake 5: 2 1")
        self.assertIsInstance(found, list)
        self.assertEqual({ill.__class__ for ill in found}, {tuple})
        self.assertIsInstance(unlet(read_history("1 kept: 5<?")), list)

    def test_arguments(self):
        for asked in [ills, unlet]:
            self.assertEqual(list(inspect.signature(asked).parameters), ["past"])
            self.assertEqual(asked(past=([], [])), [])

    def test_nothing_is_changed_and_the_list_is_the_askers_own(self):
        past = read_history("1 hold: 5<0 6<?; 5<?\n2 kept: 4<0\nmake 4: 1\nmake 5: 2 1")
        before = copy.deepcopy(past)
        for asked in [ills, unlet]:
            found = asked(past)
            self.assertNotEqual(found, [])
            again = list(found)
            found.clear()
            self.assertEqual(asked(past), again)
        self.assertEqual(past, before)


class LetTest(unittest.TestCase):
    def split(self, text):
        """The ills that are let, and those that are not."""
        past = read_history(text)
        not_let = unlet(past)
        return [ill for ill in ills(past) if ill not in not_let], not_let

    def test_unkept(self):
        for word in WORDS:
            wanted = ([("unkept", 3, 5)], [])
            self.assertEqual(self.split(f"3 {word}: 5<?"), wanted if word == "loose" else wanted[::-1], word)

    def test_lost(self):
        for word, other in itertools.product(WORDS, repeat=2):
            wanted = ([("lost", 2, 1, 5)], [])
            text = f"1 {other}:\n2 {word}: 5<0\nmake 5: 1 2"
            self.assertEqual(self.split(text), wanted if word in ("loose", "kept") else wanted[::-1], word)

    def test_midway(self):
        for word, other in itertools.product(WORDS, repeat=2):
            wanted = ([("midway", 2, 5)], [])
            text = f"1 {other}:\n2 {word}: 5<0; 5<1\nmake 5: 1"
            self.assertEqual(self.split(text), wanted if word in ("loose", "kept") else wanted[::-1], word)

    def test_skewed_at_each_two_levels(self):
        for one, other in itertools.product(WORDS, repeat=2):
            wanted = ([("skewed", 3, 7, 5, 6)], [])
            text = f"3 {one}: 5<0\n7 {other}: 6<0\nmake 5: 7\nmake 6: 3"
            both = one in SERIAL and other in SERIAL
            self.assertEqual(self.split(text), wanted[::-1] if both else wanted, (one, other))

    def test_in_the_same_order(self):
        text = "1 {0}: 5<0 6<?; 5<? 7<0\n2 {1}: 4<0\nmake 4: 1\nmake 5: 2 1\nmake 6: 1\nmake 7: 2"
        every = ills_in(text.format("kept", "kept"))
        self.assertEqual(unlet(read_history(text.format("hold", "watch"))), every)
        self.assertEqual(unlet(read_history(text.format("hold", "kept"))), every[:3] + every[4:])
        self.assertEqual(unlet(read_history(text.format("kept", "hold"))), every[4:])
        self.assertEqual(unlet(read_history(text.format("loose", "hold"))), [])


class JudgeTest(unittest.TestCase):
    """Point 85: where the judge says order, no ill is told that is not let."""

    def test_drawn_histories(self):
        orders = with_ills = rings = 0
        for seed in range(3000):
            past = drawn_history(random.Random(seed), (-1,) if seed % 3 == 0 else ())
            answer = judge(past)[0]
            if answer == "order":
                self.assertEqual(unlet(past), [], past)
                orders += 1
                with_ills += ills(past) != []
            rings += answer == "ring" and unlet(past) == []
        self.assertGreater(orders, 500)
        self.assertGreater(with_ills, 50)
        # It may say ring where none is told, too.
        self.assertGreater(rings, 20)

    def test_an_unkept_one_is_told_just_where_the_judge_tells_one(self):
        for seed in range(1000):
            past = drawn_history(random.Random(seed))
            told = [ill for ill in unlet(past) if ill[0] == "unkept"]
            self.assertEqual(judge(past)[0] == "unkept", told != [], past)

    def test_a_ring_without_ills(self):
        past = read_history("1 watch: 5<2\n2 watch: 6<3\n3 watch: 7<1\nmake 5: 2\nmake 6: 3\nmake 7: 1")
        self.assertEqual((judge(past)[0], ills(past)), ("ring", []))


class HousesTest(unittest.TestCase):
    """Point 85: of the history of a house all ills are let."""

    def test_all_levels(self):
        kinds = {"lost": 0, "midway": 0, "skewed": 0, "unkept": 0}
        for seed in range(2500):
            rows, programs, weaving = drawn(seed, WORDS, 6, 8)
            house = House(rows, programs)
            house.weave(weaving)
            self.assertEqual(unlet(history(house)), [], seed)
            house.rest()
            past = history(house)
            self.assertEqual(unlet(past), [], seed)
            self.assertEqual(ills(past), ills_of(past), seed)
            for ill in ills(past):
                kinds[ill[0]] += 1
        self.assertGreater(min(kinds.values()), 15, kinds)

    def test_one_level(self):
        for word in WORDS:
            let = {"loose": 4, "kept": 3, "make": 1, "watch": 0, "hold": 0}[word]
            kinds = set()
            for seed in range(600):
                rows, programs, weaving = drawn(seed, [word], 5, 8)
                house = House(rows, programs)
                house.weave(weaving)
                house.rest()
                self.assertEqual(unlet(history(house)), [], seed)
                kinds.update(ill[0] for ill in ills(history(house)))
            self.assertEqual(len(kinds), let, (word, kinds))

    def test_a_dealing_that_looks_behind_its_own_put(self):
        house = woven({}, ["kept: put 5 1; read a 5", "kept: put 5 2"], [2, 2, 1, 1, 1])
        self.assertEqual(history(house), ([(1, "kept", [[]]), (2, "kept", [])], [(5, [2, 1])]))
        self.assertEqual(ills(history(house)), [])

    def test_a_house_without_kept_ones(self):
        self.assertEqual(ills(history(house_of({5: 50}, "kept:"))), [])
        self.assertEqual(unlet(history(House({}, []))), [])


class ComesToItTest(unittest.TestCase):
    """Point 85: each level that lets an ill can come to it by some weaving, and no other level by any."""

    def comes_to(self, kind, *texts):
        programs = programs_of(*texts)
        self.assertLessEqual(how_many([len(deeds) + 1 for word, deeds in programs]), 2000)
        found = first_weaving({5: 50}, programs, lambda house: any(ill[:2] == kind for ill in ills(history(house))))
        if found is not None:
            house = House({5: 50}, programs)
            house.weave(found)
            house.rest()
            self.assertEqual(unlet(history(house)), [])
        return found is not None

    def test_lost(self):
        deeds = "read a 5; let a a + 1; put 5 a"
        for word, other in itertools.product(WORDS, repeat=2):
            found = self.comes_to(("lost", 1), f"{word}: {deeds}", f"{other}: {deeds}")
            self.assertEqual(found, word in ("loose", "kept"), (word, other))

    def test_midway(self):
        for word, other in itertools.product(WORDS, repeat=2):
            found = self.comes_to(("midway", 1), f"{word}: read a 5; read b 5", f"{other}: put 5 1")
            self.assertEqual(found, word in ("loose", "kept"), (word, other))

    def test_unkept(self):
        for word, other in itertools.product(WORDS, repeat=2):
            for deeds in ["put 5 1; stop 0 1", "put 5 1; put 5 2"]:
                found = self.comes_to(("unkept", 1), f"{word}: read a 5", f"{other}: {deeds}")
                self.assertEqual(found, word == "loose", (word, other))

    def test_skewed(self):
        for one, other in itertools.product(WORDS, repeat=2):
            found = self.comes_to(("skewed", 1), f"{one}: read a 5; put 6 1", f"{other}: read a 6; put 5 1")
            self.assertEqual(found, one not in SERIAL or other not in SERIAL, (one, other))


if __name__ == "__main__":
    unittest.main()
