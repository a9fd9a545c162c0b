"""Points 2, 13 and 65: which orders are allowed for a history."""

import copy
import inspect
import itertools
import random
import unittest

from skewhouse.errors import NoLevel
from skewhouse.histories import history, read_history
from skewhouse.plays import allowed
from tests.helper import NO_WORDS, WORDS, drawn_history, drawn_house, is_allowed, spots_of, woven

BIG = 10 ** 30 - 1


class SpotsTest(unittest.TestCase):
    """Each spot just once, and those of a dealing by rising places."""

    PAST = read_history("1 kept: -; -\n2 make: -\n3 watch: -\n4 hold:\n5 loose: -; -")
    ORDER = [(1, 0), (1, 1), (1, 2), (2, 0), (2, 1), (3, 0), (4, 0), (5, 0)]

    def test_all_of_them(self):
        self.assertIs(allowed(self.PAST, self.ORDER), True)
        self.assertIs(allowed(self.PAST, [(5, 0), (2, 0), (1, 0), (3, 0), (2, 1), (1, 1), (4, 0), (1, 2)]), True)

    def test_a_spot_missing(self):
        for at in range(len(self.ORDER)):
            self.assertIs(allowed(self.PAST, self.ORDER[:at] + self.ORDER[at + 1:]), False)
        self.assertIs(allowed(self.PAST, []), False)

    def test_a_spot_twice(self):
        for spot in self.ORDER:
            self.assertIs(allowed(self.PAST, self.ORDER + [spot]), False)
            self.assertIs(allowed(self.PAST, [spot] + self.ORDER), False)
            for other in range(len(self.ORDER)):
                order = self.ORDER[:other] + [spot] + self.ORDER[other + 1:]
                self.assertIs(allowed(self.PAST, order), order == self.ORDER)

    def test_a_spot_of_no_dealing(self):
        for spot in [(6, 0), (0, 0), (-1, 0), (9, 0), (BIG, 0), (1, 3), (1, -1), (2, 2), (3, 1), (4, 1), (5, 1), (5, BIG)]:
            self.assertIs(allowed(self.PAST, self.ORDER + [spot]), False)
            self.assertIs(allowed(self.PAST, [spot] + self.ORDER), False)
            self.assertIs(allowed(self.PAST, self.ORDER[:-1] + [spot]), False)
            self.assertIs(allowed(([], []), [spot]), False)

    def test_places_that_do_not_rise(self):
        for order in [
            [(1, 1), (1, 0), (1, 2)], [(1, 0), (1, 2), (1, 1)], [(1, 2), (1, 1), (1, 0)], [(1, 2), (1, 0), (1, 1)],
        ]:
            self.assertIs(allowed(self.PAST, order + self.ORDER[3:]), False)
        self.assertIs(allowed(self.PAST, self.ORDER[:3] + [(2, 1), (2, 0)] + self.ORDER[5:]), False)
        self.assertIs(allowed(self.PAST, [(2, 1)] + self.ORDER[:4] + self.ORDER[5:]), False)

    def test_a_history_without_deals(self):
        self.assertIs(allowed(([], []), []), True)
        for word in WORDS:
            self.assertIs(allowed(([], []), [], word), True)
            self.assertIs(allowed(([], []), [(1, 0)], word), False)

    def test_the_spots_by_a_word(self):
        past = read_history("1 loose: -; -\n2 watch: -")
        orders = {
            "loose": [(1, 0), (2, 0)], "kept": [(1, 0), (1, 1), (1, 2), (2, 0), (2, 1)],
            "make": [(1, 0), (1, 1), (2, 0), (2, 1)], "watch": [(1, 0), (2, 0)], "hold": [(1, 0), (2, 0)],
        }
        for word, other in itertools.product(WORDS, repeat=2):
            self.assertIs(allowed(past, orders[other], word), orders[word] == orders[other])
        self.assertIs(allowed(past, [(1, 0), (2, 0)], None), True)


class LooksTest(unittest.TestCase):
    def test_the_source_is_the_last_maker(self):
        past = read_history("1 watch: 5<2\n2 hold:\nmake 5: 2")
        self.assertIs(allowed(past, [(2, 0), (1, 0)]), True)
        self.assertIs(allowed(past, [(1, 0), (2, 0)]), False)

    def test_the_start_as_source(self):
        past = read_history("1 watch: 5<0 9<0\n2 hold:\nmake 5: 2")
        self.assertIs(allowed(past, [(2, 0), (1, 0)]), False)
        self.assertIs(allowed(past, [(1, 0), (2, 0)]), True)

    def test_a_source_that_is_not_the_last_maker(self):
        past = read_history("1 watch: 5<2\n2 hold:\n3 watch:\nmake 5: 2 3")
        orders = [order for order in itertools.permutations([(1, 0), (2, 0), (3, 0)]) if allowed(past, list(order))]
        self.assertEqual(orders, [((2, 0), (1, 0), (3, 0))])

    def test_each_pair_counts(self):
        for text in ["1 hold: 5<2 6<0", "1 hold: 5<2; 6<0", "1 hold: 6<0; 5<2", "1 hold: 5<2; -; 6<0"]:
            past = read_history(text + "\n2 hold:\nmake 5: 2\nmake 6: 2")
            for order in itertools.permutations([(1, 0), (2, 0)]):
                self.assertIs(allowed(past, list(order)), False, text)

    def test_looks_at_kept_have_each_their_spot(self):
        past = read_history("1 kept: 5<0; 5<2\n2 hold:\nmake 5: 2")
        self.assertIs(allowed(past, [(1, 0), (2, 0), (1, 1), (1, 2)]), True)
        self.assertIs(allowed(past, [(1, 0), (1, 1), (2, 0), (1, 2)]), False)
        self.assertIs(allowed(past, [(2, 0), (1, 0), (1, 1), (1, 2)]), False)
        self.assertIs(allowed(past, [(1, 0), (1, 1), (1, 2), (2, 0)]), False)

    def test_looks_at_make_have_one_spot(self):
        past = read_history("1 make: 5<2; 6<0\n2 hold:\n3 hold:\nmake 5: 2\nmake 6: 3")
        self.assertIs(allowed(past, [(2, 0), (1, 0), (3, 0), (1, 1)]), True)
        self.assertIs(allowed(past, [(2, 0), (1, 0), (1, 1), (3, 0)]), True)
        self.assertIs(allowed(past, [(1, 0), (2, 0), (3, 0), (1, 1)]), False)
        self.assertIs(allowed(past, [(2, 0), (3, 0), (1, 0), (1, 1)]), False)

    def test_of_a_loose_dealing_nothing_is_asked(self):
        past = read_history("1 loose: 5<0; 5<2; 5<?; 9<?\n2 hold:\nmake 5: 2")
        for order in itertools.permutations([(1, 0), (2, 0)]):
            self.assertIs(allowed(past, list(order)), True)
            self.assertIs(allowed(past, list(order), "loose"), True)
            self.assertIs(allowed(past, list(order), "hold"), False)

    def test_a_dealing_taken_for_loose(self):
        past = read_history("1 watch: 5<?\n2 hold: 5<0; 6<1\n3 make: -\nmake 5: 1\nmake 6: 1")
        self.assertIs(allowed(past, [(3, 0), (2, 0), (1, 0)], "loose"), True)

    def test_what_was_never_kept(self):
        for word in ["kept", "make", "watch", "hold"]:
            past = ([(1, word, [[(5, -1)]])], [])
            order = spots_of(past)
            self.assertIs(allowed(past, order), False, word)
            self.assertIs(allowed(past, spots_of(past, "loose"), "loose"), True)

    def test_the_looks_come_ahead_of_the_own_keep(self):
        for word in ["kept", "make", "watch", "hold"]:
            past = ([(1, word, [[(5, 0)]])], [(5, [1])])
            self.assertIs(allowed(past, spots_of(past)), True, word)


class MakesTest(unittest.TestCase):
    def test_makers_in_another_order(self):
        for word in WORDS:
            past = read_history(f"1 {word}:\n2 {word}:\n3 {word}:\nmake 5: 2 3 1")
            for numbers in itertools.permutations([1, 2, 3]):
                order = [spot for number in numbers for spot in spots_of(past) if spot[0] == number]
                self.assertIs(allowed(past, order), numbers == (2, 3, 1), word)

    def test_another_key_in_another_order(self):
        past = read_history("1 hold:\n2 hold:\nmake 5: 1 2\nmake 6: 2 1")
        self.assertIs(allowed(past, [(1, 0), (2, 0)]), False)
        self.assertIs(allowed(past, [(2, 0), (1, 0)]), False)

    def test_another_maker_between_the_first_spot_and_the_keep(self):
        past = read_history("1 make:\n2 loose:\nmake 5: 2 1")
        self.assertIs(allowed(past, [(2, 0), (1, 0), (1, 1)]), True)
        self.assertIs(allowed(past, [(1, 0), (2, 0), (1, 1)]), False)
        past = read_history("1 make:\n2 loose:\nmake 5: 1 2")
        self.assertIs(allowed(past, [(1, 0), (1, 1), (2, 0)]), True)
        self.assertIs(allowed(past, [(1, 0), (2, 0), (1, 1)]), False)

    def test_another_one_between_who_made_other_keys(self):
        past = read_history("1 make:\n2 loose:\nmake 5: 1\nmake 6: 2")
        self.assertIs(allowed(past, [(1, 0), (2, 0), (1, 1)]), True)

    def test_one_that_looked_alone(self):
        past = read_history("1 make: 5<0\n2 loose:\nmake 5: 2")
        self.assertIs(allowed(past, [(1, 0), (2, 0), (1, 1)]), True)

    def test_at_kept_the_first_spot_is_the_keep(self):
        past = read_history("1 kept: 5<0\n2 loose:\nmake 5: 2 1")
        self.assertIs(allowed(past, [(1, 0), (2, 0), (1, 1)]), True)
        self.assertIs(allowed(past, [(1, 0), (2, 0), (1, 1), (2, 1)], "make"), False)

    def test_two_at_make_crossed(self):
        past = read_history("1 make:\n2 make:\nmake 5: 1 2")
        self.assertIs(allowed(past, [(1, 0), (2, 0), (1, 1), (2, 1)]), False)
        self.assertIs(allowed(past, [(2, 0), (1, 0), (1, 1), (2, 1)]), False)
        self.assertIs(allowed(past, [(1, 0), (1, 1), (2, 0), (2, 1)]), True)


class LevelsTest(unittest.TestCase):
    def test_no_level(self):
        past = read_history("1 kept: 5<0\n2 hold:\nmake 5: 2")
        for word in NO_WORDS:
            for each, order in [(past, [(1, 0), (2, 0)]), (past, []), (past, [(9, 9)]), (([], []), []), (([], []), [(1, 0)])]:
                with self.subTest(word):
                    self.assertRaises(NoLevel, allowed, each, order, word)

    def test_at_each_word(self):
        # Both read ahead of the other one's make: so it is under all levels beneath watch and hold.
        past = read_history("1 watch: 5<0\n2 watch: 6<0\nmake 5: 2\nmake 6: 1")
        orders = {
            "loose": [(1, 0), (2, 0)], "kept": [(1, 0), (2, 0), (1, 1), (2, 1)], "make": [(1, 0), (2, 0), (1, 1), (2, 1)],
        }
        for word, order in orders.items():
            self.assertIs(allowed(past, order, word), True)
        for word in ["watch", "hold", None]:
            self.assertIs(allowed(past, [(1, 0), (2, 0)], word), False)
            self.assertIs(allowed(past, [(2, 0), (1, 0)], word), False)

    def test_arguments(self):
        found = inspect.signature(allowed).parameters
        self.assertEqual(list(found), ["past", "order", "word"])
        self.assertIsNone(found["word"].default)
        self.assertIs(allowed(order=[], past=([], []), word="kept"), True)

    def test_nothing_is_changed(self):
        past = read_history("1 kept: 5<0; 5<2\n2 hold:\nmake 5: 2")
        order = [(1, 0), (2, 0), (1, 1), (1, 2)]
        before = copy.deepcopy((past, order))
        for word in WORDS + [None]:
            self.assertEqual(allowed(past, order, word), allowed(past, order, word))
            allowed(past, order[::-1], word)
        self.assertEqual((past, order), before)

    def test_keys_of_any_size(self):
        past = ([(1, "hold", [[(-10 ** 5000, 2), (10 ** 5000, 0)]]), (2, "kept", [])], [(-10 ** 5000, [2])])
        self.assertIs(allowed(past, [(2, 0), (1, 0)]), True)
        self.assertIs(allowed(past, [(1, 0), (2, 0)]), False)


class SecondAccountTest(unittest.TestCase):
    def test_all_orders_of_small_histories(self):
        answers = {True: 0, False: 0}
        for seed in range(400):
            past = drawn_history(random.Random(seed))
            for word in WORDS + [None]:
                spots = spots_of(past, word)
                for order in itertools.permutations(spots) if len(spots) < 6 else []:
                    answer = allowed(past, list(order), word)
                    self.assertIs(answer, is_allowed(past, list(order), word), (seed, word, order))
                    answers[answer] += 1
        self.assertGreater(min(answers.values()), 500)

    def test_orders_of_houses_and_orders_near_them(self):
        answers = {True: 0, False: 0}
        for seed in range(600):
            chance = random.Random(seed)
            house = drawn_house(seed)
            past, order = history(house), house.order()
            self.assertTrue(is_allowed(past, order))
            for turn in range(10):
                changed = list(order)
                if changed:
                    spot = changed.pop(chance.randrange(len(changed)))
                    changed.insert(chance.randint(0, len(changed)), spot)
                answer = allowed(past, changed)
                self.assertIs(answer, is_allowed(past, changed), (seed, changed))
                answers[answer] += 1
        self.assertGreater(min(answers.values()), 500)

    def test_the_order_of_a_house_at_another_level(self):
        texts = ["kept: read a 5; read a 5", "kept: put 5 51"]
        house = woven({5: 50}, texts, [1, 2, 2, 1, 1])
        self.assertEqual(house.order(), [(1, 0), (2, 0), (1, 1), (1, 2)])
        self.assertIs(allowed(history(house), house.order()), True)
        self.assertIs(allowed(history(house), house.order(), "make"), False)
        self.assertIs(allowed(history(house), [(1, 0), (1, 1), (2, 0), (2, 1)], "make"), False)


if __name__ == "__main__":
    unittest.main()
