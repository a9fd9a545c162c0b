"""Points 2, 3 and 31 to 33: holds, who stands against whom, what is taken and freed."""

import inspect
import random
import unittest

from skewhouse.errors import SkewError, Waits
from skewhouse.holds import Holds

BIG = 10 ** 30 - 1
OWN, SHARED = True, False


def holds_of(takings):
    holds = Holds()
    for dealing, low, high, own in takings:
        holds.take(dealing, low, high, own)
    return holds


class HoldsTest(unittest.TestCase):
    def refused(self, holds, dealing, low, high, own, others):
        """The taking is refused, tells its fields, and nothing is taken by it."""
        everybody = list(range(1, 10)) + [BIG, dealing]
        before = [holds.held(each) for each in everybody]
        with self.assertRaises(SkewError) as taken:
            holds.take(dealing, low, high, own)
        refusal = taken.exception
        self.assertIs(type(refusal), Waits)
        self.assertEqual((refusal.dealing, refusal.others), (dealing, others))
        self.assertIs(type(refusal.others), list)
        self.assertEqual([holds.held(each) for each in everybody], before)
        self.assertEqual(holds.against(dealing, low, high, own), others)


class AgainstTest(HoldsTest):
    def test_nobody_holds_anything_at_first(self):
        holds = Holds()
        for dealing in (1, 2, BIG):
            self.assertEqual(holds.held(dealing), [])
            for own in (OWN, SHARED):
                self.assertEqual(holds.against(dealing, -BIG, BIG, own), [])

    def test_the_four_pairs(self):
        for held, wanted, others in [(OWN, OWN, [1]), (OWN, SHARED, [1]), (SHARED, OWN, [1]), (SHARED, SHARED, [])]:
            with self.subTest(held=held, wanted=wanted):
                holds = holds_of([(1, 3, 6, held)])
                self.assertEqual(holds.against(2, 3, 6, wanted), others)
                self.assertEqual(holds.against(2, 5, 5, wanted), others)
                self.assertEqual(holds.against(2, 0, 9, wanted), others)

    def test_stretches_that_touch_at_one_key(self):
        holds = holds_of([(1, 3, 6, OWN)])
        for low, high in [(6, 9), (6, 6), (3, 3), (0, 3), (-BIG, 3), (6, BIG)]:
            self.assertEqual(holds.against(2, low, high, SHARED), [1])

    def test_stretches_that_do_not_touch(self):
        holds = holds_of([(1, 3, 6, OWN)])
        for low, high in [(7, 9), (7, 7), (2, 2), (0, 2), (-BIG, 2), (7, BIG), (-6, -3)]:
            self.assertEqual(holds.against(2, low, high, OWN), [])

    def test_told_key_by_key(self):
        bounds = range(-2, 4)
        stretches = [(low, high) for low in bounds for high in bounds]
        for held in stretches:
            for wanted in stretches:
                common = [key for key in bounds if held[0] <= key <= held[1] and wanted[0] <= key <= wanted[1]]
                for one, other in [(OWN, OWN), (OWN, SHARED), (SHARED, OWN), (SHARED, SHARED)]:
                    found = holds_of([(1,) + held + (one,)]).against(2, wanted[0], wanted[1], other)
                    self.assertEqual(found, [1] if common and (one or other) else [])

    def test_empty_stretches_stand_against_nobody(self):
        holds = holds_of([(1, 3, 6, OWN), (2, 9, 8, OWN), (3, 6, 3, OWN), (4, 7, 2, OWN)])
        self.assertEqual(holds.against(5, 6, 3, OWN), [])
        self.assertEqual(holds.against(5, 9, 8, OWN), [])
        self.assertEqual(holds.against(5, 5, 4, OWN), [])
        self.assertEqual(holds.against(5, -BIG, BIG, OWN), [1])

    def test_never_against_itself(self):
        holds = holds_of([(1, 3, 6, OWN), (1, 5, 9, SHARED)])
        for own in (OWN, SHARED):
            self.assertEqual(holds.against(1, 3, 9, own), [])
            holds.take(1, 3, 9, own)

    def test_several_rising_each_once_whatever_the_order(self):
        takings = [(8, 1, 5, SHARED), (2, 4, 9, SHARED), (5, 5, 5, SHARED), (2, 5, 5, SHARED), (8, 0, 9, SHARED)]
        takings += [(3, 6, 9, SHARED), (BIG, 5, 6, SHARED), (1, 5, 4, SHARED)]
        for seed in range(20):
            random.Random(seed).shuffle(takings)
            holds = holds_of(takings)
            self.assertEqual(holds.against(4, 5, 5, OWN), [2, 5, 8, BIG])
            self.assertEqual(holds.against(2, 5, 5, OWN), [5, 8, BIG])
            self.assertEqual(holds.against(BIG, 5, 6, OWN), [2, 3, 5, 8])
            self.assertEqual(holds.against(4, 5, 5, SHARED), [])

    def test_only_those_with_such_a_hold(self):
        holds = holds_of([(1, 0, 4, SHARED), (2, 5, 9, OWN), (3, 0, 4, SHARED), (3, 20, 29, OWN), (4, 10, 19, OWN)])
        self.assertEqual(holds.against(5, 3, 6, SHARED), [2])
        self.assertEqual(holds.against(5, 3, 6, OWN), [1, 2, 3])
        self.assertEqual(holds.against(5, 0, 29, SHARED), [2, 3, 4])
        self.assertEqual(holds.against(3, 0, 29, SHARED), [2, 4])

    def test_asking_takes_nothing(self):
        holds = Holds()
        holds.against(1, 3, 6, OWN)
        self.assertEqual(holds.held(1), [])
        self.assertEqual(holds.against(2, 3, 6, OWN), [])


class TakeTest(HoldsTest):
    def test_taken_and_told(self):
        holds = Holds()
        self.assertIsNone(holds.take(1, 3, 6, OWN))
        self.assertIsNone(holds.take(1, 8, 8, SHARED))
        self.assertIsNone(holds.take(2, 7, 7, OWN))
        self.assertEqual(holds.held(1), [(3, 6, True), (8, 8, False)])
        self.assertEqual(holds.held(2), [(7, 7, True)])
        for low, high, own in holds.held(1):
            self.assertIs(type(own), bool)
        self.assertEqual([type(hold) for hold in holds.held(1)], [tuple, tuple])

    def test_shared_by_many(self):
        holds = Holds()
        for dealing in range(1, 41):
            holds.take(dealing, 0, 9, SHARED)
        for dealing in range(1, 41):
            self.assertEqual(holds.held(dealing), [(0, 9, False)])
        self.refused(holds, 41, 9, 9, OWN, list(range(1, 41)))
        self.refused(holds, 7, 9, 9, OWN, [each for each in range(1, 41) if each != 7])

    def test_refused_in_three_of_the_four_pairs(self):
        for held, wanted in [(OWN, OWN), (OWN, SHARED), (SHARED, OWN)]:
            holds = holds_of([(2, 3, 6, held)])
            self.refused(holds, 1, 6, 9, wanted, [2])
            self.refused(holds, 3, 0, 3, wanted, [2])
            self.assertEqual(holds.held(1), [])
        holds = holds_of([(2, 3, 6, SHARED)])
        holds.take(1, 6, 9, SHARED)
        self.assertEqual(holds.held(1), [(6, 9, False)])

    def test_a_refused_one_keeps_what_it_had(self):
        holds = holds_of([(2, 3, 6, SHARED), (1, 3, 4, SHARED), (3, 4, 5, SHARED)])
        self.refused(holds, 1, 4, 4, OWN, [2, 3])
        self.assertEqual(holds.held(1), [(3, 4, False)])
        self.refused(holds, 2, 3, 3, OWN, [1])
        holds.take(2, 6, 6, OWN)
        self.assertEqual(holds.held(2), [(3, 6, False), (6, 6, True)])

    def test_a_refused_one_stands_against_nobody(self):
        holds = holds_of([(2, 3, 6, OWN)])
        self.refused(holds, 1, 6, 9, OWN, [2])
        self.assertEqual(holds.against(3, 7, 9, OWN), [])
        self.assertEqual(holds.against(3, 6, 9, OWN), [2])

    def test_refused_again_and_taken_when_free(self):
        holds = holds_of([(2, 3, 6, OWN), (3, 7, 8, SHARED)])
        self.refused(holds, 1, 5, 8, OWN, [2, 3])
        self.refused(holds, 1, 5, 8, OWN, [2, 3])
        holds.free(2)
        self.refused(holds, 1, 5, 8, OWN, [3])
        holds.free(3)
        holds.take(1, 5, 8, OWN)
        self.assertEqual(holds.held(1), [(5, 8, True)])

    def test_the_same_stretch_taken_twice(self):
        holds = holds_of([(1, 3, 6, OWN), (1, 3, 6, OWN), (1, 3, 6, SHARED), (1, 3, 6, OWN)])
        self.assertEqual(holds.held(1), [(3, 6, True), (3, 6, True), (3, 6, False), (3, 6, True)])

    def test_none_takes_another_ones_place(self):
        holds = holds_of([(1, 3, 6, OWN), (1, 3, 6, SHARED)])
        self.refused(holds, 2, 3, 6, SHARED, [1])
        holds = holds_of([(1, 0, 9, SHARED), (1, 5, 5, OWN)])
        self.refused(holds, 2, 5, 5, SHARED, [1])
        holds.take(2, 0, 4, SHARED)

    def test_in_the_order_in_which_they_were_taken(self):
        takings = [(9, 9, OWN), (1, 2, SHARED), (5, 5, OWN), (-3, 0, SHARED), (1, 2, OWN), (7, 6, SHARED)]
        holds = holds_of([(4,) + taking for taking in takings])
        self.assertEqual(holds.held(4), takings)

    def test_empty_stretches_are_held_like_any_other(self):
        holds = holds_of([(1, 3, 6, OWN), (2, 6, 3, OWN), (2, 5, 4, SHARED), (1, 5, 4, OWN)])
        self.assertEqual(holds.held(2), [(6, 3, True), (5, 4, False)])
        self.assertEqual(holds.held(1), [(3, 6, True), (5, 4, True)])
        holds.free(2)
        self.assertEqual(holds.held(2), [])

    def test_numbers_of_thirty_figures(self):
        holds = holds_of([(BIG, -BIG, -1, OWN), (BIG - 1, 1, BIG, OWN)])
        self.assertEqual(holds.held(BIG), [(-BIG, -1, True)])
        holds.take(1, 0, 0, OWN)
        self.refused(holds, 2, -1, 1, SHARED, [1, BIG - 1, BIG])
        self.refused(holds, BIG, BIG, BIG, SHARED, [BIG - 1])

    def test_a_dealing_of_any_number_of_figures_is_refused_alike(self):
        holds = holds_of([(10 ** 5000, 1, 1, OWN)])
        with self.assertRaises(Waits) as taken:
            holds.take(10 ** 5000 + 1, 1, 1, OWN)
        self.assertTrue(taken.exception.dealing == 10 ** 5000 + 1)
        self.assertTrue(taken.exception.others == [10 ** 5000])


class FreeTest(HoldsTest):
    def test_all_its_holds_and_nobody_elses(self):
        holds = holds_of([(1, 3, 6, OWN), (2, 8, 9, OWN), (1, 10, 12, SHARED), (3, 10, 12, SHARED), (1, 1, 0, OWN)])
        self.assertIsNone(holds.free(1))
        self.assertEqual(holds.held(1), [])
        self.assertEqual(holds.held(2), [(8, 9, True)])
        self.assertEqual(holds.held(3), [(10, 12, False)])
        self.assertEqual(holds.against(4, 0, 20, OWN), [2, 3])

    def test_where_nothing_is_held_nothing_is_done(self):
        holds = holds_of([(2, 8, 9, OWN)])
        self.assertIsNone(holds.free(1))
        self.assertIsNone(holds.free(1))
        self.assertEqual((holds.held(1), holds.held(2)), ([], [(8, 9, True)]))
        self.assertIsNone(Holds().free(1))

    def test_freed_twice(self):
        holds = holds_of([(1, 3, 6, OWN)])
        holds.free(1)
        holds.free(1)
        self.assertEqual(holds.held(1), [])

    def test_taken_again_behind_that(self):
        holds = holds_of([(1, 3, 6, OWN), (1, 7, 7, SHARED)])
        holds.free(1)
        holds.take(2, 6, 6, OWN)
        self.refused(holds, 1, 3, 6, OWN, [2])
        holds.take(1, 3, 5, SHARED)
        self.assertEqual(holds.held(1), [(3, 5, False)])
        self.refused(holds, 2, 5, 5, OWN, [1])


class ByChanceTest(HoldsTest):
    def others_of(self, known, dealing, low, high, own):
        keys = {key for key in range(-9, 10) if low <= key <= high}
        found = set()
        for other, other_low, other_high, other_own in known:
            if other != dealing and (own or other_own) and keys & set(range(other_low, other_high + 1)):
                found.add(other)
        return sorted(found)

    def one_turn(self, holds, known, chance):
        dealing, low, high = chance.randint(1, 5), chance.randint(-4, 4), chance.randint(-4, 4)
        own = chance.random() < 0.4
        if chance.random() < 0.15:
            holds.free(dealing)
            return [hold for hold in known if hold[0] != dealing]
        others = self.others_of(known, dealing, low, high, own)
        if others:
            self.refused(holds, dealing, low, high, own, others)
            return known
        self.assertEqual(holds.against(dealing, low, high, own), [])
        holds.take(dealing, low, high, own)
        return known + [(dealing, low, high, own)]

    def test_takings_by_chance(self):
        for seed in range(80):
            chance = random.Random(seed)
            holds, known = Holds(), []
            for turn in range(40):
                known = self.one_turn(holds, known, chance)
                for dealing in range(1, 6):
                    self.assertEqual(holds.held(dealing), [hold[1:] for hold in known if hold[0] == dealing])


class HandedInTest(HoldsTest):
    def test_lists_that_are_changed_behind_the_call(self):
        holds = holds_of([(1, 3, 6, SHARED), (2, 3, 6, SHARED)])
        asks = [lambda: holds.held(1), lambda: holds.held(9), lambda: holds.against(3, 3, 3, OWN)]
        asks.append(lambda: holds.against(3, 3, 3, SHARED))
        for ask in asks:
            before = list(ask())
            ask().append((7, 7, True))
            self.assertEqual(ask(), before)
            ask().clear()
            self.assertEqual(ask(), before)
            self.assertIsNot(ask(), ask())
        self.assertEqual(holds.against(3, 7, 7, OWN), [])

    def test_a_list_told_ahead_of_a_free_stays(self):
        holds = holds_of([(1, 3, 6, SHARED)])
        held, against = holds.held(1), holds.against(2, 3, 3, OWN)
        holds.free(1)
        holds.take(1, 9, 9, OWN)
        self.assertEqual((held, against), ([(3, 6, False)], [1]))

    def test_two_know_nothing_of_each_other(self):
        one, other = Holds(), Holds()
        one.take(1, 3, 6, OWN)
        self.assertEqual(other.held(1), [])
        self.assertEqual(other.against(2, 3, 6, OWN), [])
        other.take(2, 3, 6, OWN)
        self.assertEqual((one.held(2), other.held(2)), ([], [(3, 6, True)]))
        other.free(1)
        self.assertEqual(one.held(1), [(3, 6, True)])
        one.free(1)
        self.assertEqual(other.held(2), [(3, 6, True)])

    def test_arguments(self):
        holds = Holds()
        holds.take(dealing=1, low=3, high=6, own=True)
        self.assertEqual(holds.against(dealing=2, low=3, high=6, own=False), [1])
        self.assertEqual(holds.held(dealing=1), [(3, 6, True)])
        holds.free(dealing=1)
        wanted = {"against": ["dealing", "low", "high", "own"], "take": ["dealing", "low", "high", "own"]}
        wanted.update({"free": ["dealing"], "held": ["dealing"]})
        for name, names in wanted.items():
            self.assertEqual(list(inspect.signature(getattr(holds, name)).parameters), names)
        self.assertEqual(list(inspect.signature(Holds).parameters), [])


if __name__ == "__main__":
    unittest.main()
