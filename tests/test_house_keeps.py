"""Points 56, 57 and 59: the keep and the edges about a dealing at watch, what is made, and the order of a house."""

import unittest

from skewhouse.errors import NoDealing
from tests.helper import WORDS, house_of, woven


class KeepTest(unittest.TestCase):
    def test_all_rows_at_once(self):
        for word in WORDS:
            house = house_of({5: 50, 6: 60}, word + ": put 5 51; take 6; put 7 7")
            house.weave([1, 1, 1])
            self.assertEqual((house.rows(), house.made(), house.order()), ([(5, 50), (6, 60)], [], []))
            self.assertEqual(house.step(1), [(4, 1, "kept", ((5, 51), (6, None), (7, 7)))])
            self.assertEqual((house.rows(), house.made()), ([(5, 51), (7, 7)], [(5, [1]), (6, [1]), (7, [1])]))

    def test_a_make_without_a_change(self):
        house = woven({5: 50}, ["kept: put 5 50; take 9"], [1, 1, 1])
        self.assertEqual((house.rows(), house.made()), ([(5, 50)], [(5, [1]), (9, [1])]))

    def test_makers_in_the_order_of_their_makes(self):
        texts = ["kept: put 5 1; put 7 1", "hold: put 5 2", "watch: take 5; put 3 3"]
        house = woven({}, texts, [2, 2, 3, 3, 3, 1, 1, 1])
        self.assertEqual(house.made(), [(3, [3]), (5, [2, 3, 1]), (7, [1])])
        self.assertEqual(house.rows(), [(3, 3), (5, 1), (7, 1)])

    def test_a_kept_dealing_without_makes(self):
        house = woven({5: 50}, ["kept: read a 5"], [1, 1])
        self.assertEqual((house.made(), house.order(), house.state(1)), ([], [(1, 0), (1, 1)], "kept"))

    def test_one_that_is_broken_off_leaves_nothing(self):
        for word in WORDS:
            house = woven({5: 50, 6: 60}, [word + ": read a 5; put 5 51; take 6; stop 0 1"], [1, 1, 1, 1])
            self.assertEqual((house.rows(), house.made(), house.order()), ([(5, 50), (6, 60)], [], []))
            self.assertEqual((house.looked(1), house.state(1), house.reason(1)), ([], "broken", ("own",)))


class EdgesTest(unittest.TestCase):
    """In most of these 1 sees the key 5 ahead of the make of 2, and 2 sees the key 6 ahead of the make of 3."""

    def threes(self, word, mid="watch", other="kept", numbers=(1, 3, 2, 3, 2, 2)):
        texts = [word + ": read a 5; put 9 9", mid + ": read a 6; put 5 5", other + ": put 6 6"]
        return woven({}, texts, list(numbers) + [1, 1])

    def test_the_broken_one_at_kept_make_and_watch(self):
        for word in ["kept", "make", "watch"]:
            house = self.threes(word)
            self.assertEqual(house.log()[-1], (8, 1, "broken", ("edges", 1, 5, 2, 6, 3)), word)
            self.assertEqual(house.state(1), "broken")
            self.assertEqual(house.reason(1), ("edges", 1, 5, 2, 6, 3))

    def test_a_loose_one_is_never_broken_off_so(self):
        self.assertEqual(self.threes("loose").log()[-1], (8, 1, "kept", ((9, 9),)))

    def test_one_at_hold_makes_the_other_wait(self):
        house = self.threes("hold")
        self.assertEqual(house.log()[4:6], [(5, 2, "wait", (1,)), (6, 2, "wait", (1,))])
        house.rest()
        self.assertEqual((house.state(1), house.reason(2)), ("kept", ("edges", 1, 5, 2, 6, 3)))

    def test_only_about_a_dealing_at_watch(self):
        for mid in ["loose", "kept", "make"]:
            self.assertEqual(self.threes("watch", mid=mid).state(1), "kept", mid)

    def test_the_third_at_each_level(self):
        for other in WORDS:
            self.assertEqual(self.threes("make", other=other).reason(1), ("edges", 1, 5, 2, 6, 3), other)

    def test_the_third_kept_ahead_of_the_begin_of_the_midmost(self):
        self.assertEqual(self.threes("watch", numbers=(1, 3, 3, 2, 2, 2)).state(1), "kept")

    def test_the_third_kept_behind_the_midmost(self):
        self.assertEqual(self.threes("watch", numbers=(1, 3, 2, 2, 2, 3)).state(1), "kept")

    def test_the_first_looks_behind_the_midmost(self):
        self.assertEqual(self.threes("watch", numbers=(3, 2, 3, 2, 2, 1)).state(1), "kept")

    def test_the_midmost_itself(self):
        texts = ["{}: read a 5", "watch: read a 6; put 5 5", "kept: put 6 6"]
        for word in ["kept", "make", "watch"]:
            house = woven({}, [text.format(word) for text in texts], [1, 3, 2, 3, 2, 1, 2])
            self.assertEqual(house.log()[-1], (7, 2, "broken", ("edges", 1, 5, 2, 6, 3)), word)
            self.assertEqual((house.rows(), house.state(1)), ([(6, 6)], "kept"))

    def test_the_midmost_begins_behind_the_end_of_the_first(self):
        texts = ["watch: read a 5", "watch: read a 6; put 5 5", "kept: put 6 6"]
        house = woven({}, texts, [1, 1, 3, 2, 3, 2, 2])
        self.assertEqual(house.state(2), "kept")

    def test_two_that_read_each_others_key(self):
        texts = ["watch: read a 1; put 2 a", "watch: read a 2; put 1 a"]
        house = woven({1: 10, 2: 20}, texts, [1, 2, 1, 2, 1, 2])
        self.assertEqual(house.log()[4:], [(5, 1, "kept", ((2, 10),)), (6, 2, "broken", ("edges", 1, 1, 2, 2, 1))])
        self.assertEqual(house.rows(), [(1, 10), (2, 10)])

    def test_two_that_read_each_others_key_at_other_levels(self):
        for word in ["loose", "kept", "make"]:
            texts = [word + ": read a 1; put 2 a", word + ": read a 2; put 1 a"]
            house = woven({1: 10, 2: 20}, texts, [1, 2, 1, 2, 1, 2])
            self.assertEqual((house.state(1), house.state(2), house.rows()), ("kept", "kept", [(1, 20), (2, 10)]))

    def test_rows_that_come_up_in_a_stretch(self):
        texts = ["watch: count a 1 9; put 2 a", "watch: count a 1 9; put 3 a"]
        house = woven({1: 10}, texts, [1, 2, 1, 2, 1, 2])
        self.assertEqual(house.reason(2), ("edges", 1, 3, 2, 2, 1))

    def test_its_holds_are_free_and_nothing_is_left(self):
        texts = ["kept: read a 5; put 9 9", "watch: read a 6; put 5 5", "kept: put 6 6", "kept: put 9 4", "loose: read a 9"]
        house = woven({}, texts, [1, 3, 2, 3, 2, 2, 1, 4, 1, 5, 4, 4])
        self.assertEqual([row[2:] for row in house.log()[7:]], [
            ("wait", (1,)), ("broken", ("edges", 1, 5, 2, 6, 3)), ("look", 9, 9, ()), ("put", 9, 4), ("kept", ((9, 4),)),
        ])
        self.assertEqual(house.rows(), [(5, 5), (6, 6), (9, 4)])
        self.assertEqual((house.looked(1), house.made()), ([], [(5, [2]), (6, [3]), (9, [4])]))
        self.assertEqual(house.order(), [(2, 0), (3, 0), (4, 0)])


class OrderTest(unittest.TestCase):
    def test_none_kept(self):
        house = woven({}, ["kept: put 5 5", "watch: stop 0 1"], [1, 2])
        self.assertEqual(house.order(), [])

    def test_the_spots_of_each_level(self):
        wanted = {
            "loose": [(1, 0)], "kept": [(1, 0), (1, 1), (1, 2)], "make": [(1, 0), (1, 1)],
            "watch": [(1, 0)], "hold": [(1, 0)],
        }
        for word, spots in wanted.items():
            house = woven({}, [word + ": read a 5; put 5 1; count a 1 9"], [1, 1, 1, 1])
            self.assertEqual(house.order(), spots, word)

    def test_the_stamps_of_the_spots(self):
        # The dealings without deeds mark the turns of the other one.
        wanted = {
            "loose": [(2, 0), (3, 0), (4, 0), (5, 0), (1, 0)],
            "kept": [(2, 0), (3, 0), (1, 0), (4, 0), (1, 1), (5, 0), (1, 2)],
            "make": [(2, 0), (1, 0), (3, 0), (4, 0), (5, 0), (1, 1)],
            "watch": [(2, 0), (3, 0), (4, 0), (5, 0), (1, 0)],
            "hold": [(2, 0), (3, 0), (4, 0), (5, 0), (1, 0)],
        }
        for word, spots in wanted.items():
            texts = [word + ": let a 1 + 1; read a 5; read a 6"] + ["kept:"] * 4
            house = woven({}, texts, [2, 1, 3, 1, 4, 1, 5, 1])
            self.assertEqual(house.order(), spots, word)

    def test_an_early_one_at_watch(self):
        texts = ["watch: read a 5", "kept: put 5 5", "kept:", "kept:"]
        house = woven({}, texts, [3, 1, 4, 2, 2, 1])
        self.assertEqual(house.order(), [(3, 0), (1, 0), (4, 0), (2, 0)])

    def test_one_at_watch_that_is_not_early(self):
        for deed in ["read a 6", "read a 5; put 6 6", "sum a 6 9", "put 7 7; read a 7"]:
            house = woven({}, ["watch: " + deed, "kept: put 8 8", "kept: put 4 4"], [1, 2, 3, 3, 1, 1])
            self.assertEqual(house.order(), [(3, 0), (1, 0)], deed)

    def test_it_is_early_by_a_row_that_comes_up_in_its_stretch(self):
        texts = ["watch: put 5 1; sum a 5 6", "kept: put 6 6", "kept:"]
        self.assertEqual(woven({}, texts, [1, 2, 3, 2, 1, 1]).order(), [(1, 0), (3, 0), (2, 0)])

    def test_it_is_early_by_dealings_kept_ahead_of_its_own_end_alone(self):
        house = woven({}, ["watch: read a 5", "kept: put 5 5"], [1, 2, 1, 2])
        self.assertEqual(house.order(), [(1, 0), (2, 0)])
        house = woven({}, ["watch: read a 5", "kept: put 5 5", "kept:"], [1, 2, 3, 1, 2])
        self.assertEqual(house.order(), [(3, 0), (1, 0), (2, 0)])
        house = woven({}, ["watch: read a 5", "kept: put 5 5", "kept:"], [2, 2, 1, 3, 1])
        self.assertEqual(house.order(), [(2, 0), (3, 0), (1, 0)])

    def test_of_one_stamp_by_places(self):
        house = woven({}, ["make:", "kept: read a 5", "make:"], [3, 2, 1, 2])
        self.assertEqual(house.order(), [(3, 0), (3, 1), (2, 0), (1, 0), (1, 1), (2, 1)])

    def test_ten_looks_and_more_come_by_places(self):
        house = woven({}, ["kept: " + "; ".join(["read a 5"] * 12)], [1] * 13)
        self.assertEqual(house.order(), [(1, place) for place in range(13)])

    def test_stamps_of_ten_and_more(self):
        house = woven({}, ["kept:", "kept: " + "; ".join(["read a 5"] * 10)], [2] * 9 + [1, 2, 2])
        wanted = [(2, place) for place in range(9)] + [(1, 0), (2, 9), (2, 10)]
        self.assertEqual(house.order(), wanted)

    def test_nothing_of_those_who_have_not_ended(self):
        house = woven({}, ["kept: read a 5", "make: read a 5; put 6 6", "watch: read a 5; stop 0 1"], [1, 2, 3, 3, 1])
        self.assertEqual(house.order(), [(1, 0), (1, 1)])
        self.assertRaises(NoDealing, house.looked, 4)


if __name__ == "__main__":
    unittest.main()
