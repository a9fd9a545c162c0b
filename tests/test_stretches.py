"""Points 2, 3, 21 and 22: stretches, and drafts laid over rows."""

import inspect
import random
import unittest

from skewhouse.stretches import inside, laid, meet

BIG = 10 ** 30 - 1


class InsideTest(unittest.TestCase):
    def test_at_each_end_within_and_without(self):
        for key, answer in [(2, False), (3, True), (4, True), (5, True), (6, True), (7, False), (-5, False)]:
            self.assertIs(inside(key, 3, 6), answer)

    def test_a_stretch_of_one_key(self):
        for key, answer in [(4, False), (5, True), (6, False)]:
            self.assertIs(inside(key, 5, 5), answer)

    def test_low_above_high_has_no_key(self):
        for key in range(-3, 10):
            self.assertIs(inside(key, 6, 3), False)
            self.assertIs(inside(key, 4, 3), False)

    def test_below_nought(self):
        for key, answer in [(-7, False), (-6, True), (-4, True), (-3, True), (-2, False), (0, False), (5, False)]:
            self.assertIs(inside(key, -6, -3), answer)
        for key, answer in [(-2, False), (-1, True), (0, True), (1, True), (2, False)]:
            self.assertIs(inside(key, -1, 1), answer)

    def test_numbers_of_thirty_figures(self):
        for sign in (1, -1):
            key = sign * BIG
            self.assertIs(inside(key, key, key), True)
            self.assertIs(inside(key, key - 1, key + 1), True)
            self.assertIs(inside(key - 1, key, key + 1), False)
            self.assertIs(inside(key + 1, key - 1, key), False)
            self.assertIs(inside(key, key + 1, key - 1), False)
        self.assertIs(inside(0, -BIG, BIG), True)
        self.assertIs(inside(0, BIG, -BIG), False)

    def test_arguments(self):
        self.assertIs(inside(key=1, low=0, high=2), True)
        self.assertEqual(list(inspect.signature(inside).parameters), ["key", "low", "high"])


class MeetTest(unittest.TestCase):
    def both_ways(self, one, other, answer):
        with self.subTest(one=one, other=other):
            self.assertIs(meet(one[0], one[1], other[0], other[1]), answer)
            self.assertIs(meet(other[0], other[1], one[0], one[1]), answer)

    def test_told_key_by_key(self):
        bounds = range(-3, 4)
        stretches = [(low, high) for low in bounds for high in bounds]
        for one in stretches:
            for other in stretches:
                both = [key for key in bounds if one[0] <= key <= one[1] and other[0] <= key <= other[1]]
                self.both_ways(one, other, both != [])

    def test_two_that_touch_at_an_end(self):
        self.both_ways((1, 5), (5, 9), True)
        self.both_ways((1, 5), (6, 9), False)
        self.both_ways((1, 5), (5, 5), True)
        self.both_ways((-5, -1), (-1, 4), True)
        self.both_ways((-5, -1), (0, 4), False)

    def test_one_within_another_and_equal_ones(self):
        self.both_ways((1, 9), (3, 4), True)
        self.both_ways((1, 9), (1, 4), True)
        self.both_ways((1, 9), (9, 9), True)
        self.both_ways((1, 9), (1, 9), True)
        self.both_ways((4, 4), (4, 4), True)

    def test_empty_ones_meet_none(self):
        for empty in [(5, 4), (9, 1), (6, 5), (2, 1), (0, -1), (BIG, -BIG)]:
            for other in [(1, 9), (4, 5), (5, 5), (4, 4), (-BIG, BIG), (5, 4), (9, 1), empty]:
                self.both_ways(empty, other, False)

    def test_numbers_of_thirty_figures(self):
        self.both_ways((-BIG, BIG), (0, 0), True)
        self.both_ways((-BIG, 0), (0, BIG), True)
        self.both_ways((-BIG, -1), (0, BIG), False)
        self.both_ways((BIG - 1, BIG), (BIG, BIG + 1), True)
        self.both_ways((BIG - 1, BIG), (BIG + 1, BIG + 1), False)
        self.both_ways((-BIG, -BIG), (-BIG, -BIG), True)
        self.both_ways((-BIG, -BIG), (1 - BIG, 1 - BIG), False)

    def test_arguments(self):
        self.assertIs(meet(low=1, high=2, other_low=2, other_high=3), True)
        self.assertEqual(list(inspect.signature(meet).parameters), ["low", "high", "other_low", "other_high"])


class LaidTest(unittest.TestCase):
    ROWS = [(-4, 40), (1, 10), (3, 0), (5, -50), (9, 90)]

    def laid_as(self, rows, drafts, stretch, wanted):
        with self.subTest(rows=rows, drafts=drafts, stretch=stretch):
            rows_before, drafts_before = list(rows), list(drafts.items())
            found = laid(rows, drafts, stretch[0], stretch[1])
            self.assertEqual(found, wanted)
            self.assertIs(type(found), list)
            self.assertEqual([type(row) for row in found], [tuple] * len(found))
            self.assertIsNot(found, rows)
            self.assertEqual((rows, list(drafts.items())), (rows_before, drafts_before))

    def test_no_drafts(self):
        self.laid_as(self.ROWS, {}, (-9, 9), self.ROWS)
        self.laid_as(self.ROWS, {}, (1, 5), [(1, 10), (3, 0), (5, -50)])
        self.laid_as(self.ROWS, {}, (2, 4), [(3, 0)])
        self.laid_as(self.ROWS, {}, (6, 8), [])

    def test_no_rows(self):
        self.laid_as([], {}, (-9, 9), [])
        self.laid_as([], {3: 30}, (-9, 9), [(3, 30)])
        self.laid_as([], {3: None}, (-9, 9), [])
        self.laid_as([], {3: 0, 1: None, 2: -5}, (-9, 9), [(2, -5), (3, 0)])

    def test_a_draft_over_a_row(self):
        self.laid_as([(1, 10), (3, 30)], {3: 31}, (0, 9), [(1, 10), (3, 31)])
        self.laid_as([(1, 10), (3, 30)], {1: 10}, (0, 9), [(1, 10), (3, 30)])

    def test_a_draft_where_no_row_was(self):
        self.laid_as([(1, 10), (3, 30)], {2: 20}, (0, 9), [(1, 10), (2, 20), (3, 30)])
        self.laid_as([(1, 10), (3, 30)], {0: 5}, (0, 9), [(0, 5), (1, 10), (3, 30)])
        self.laid_as([(1, 10), (3, 30)], {9: 5}, (0, 9), [(1, 10), (3, 30), (9, 5)])

    def test_none_takes_a_row_away(self):
        self.laid_as([(1, 10), (3, 30)], {1: None}, (0, 9), [(3, 30)])
        self.laid_as([(1, 10), (3, 30)], {1: None, 3: None}, (0, 9), [])
        self.laid_as([(1, 10), (3, 30)], {2: None}, (0, 9), [(1, 10), (3, 30)])

    def test_nought_is_a_value(self):
        self.laid_as([(1, 10), (3, 0)], {1: 0, 2: 0}, (0, 9), [(1, 0), (2, 0), (3, 0)])
        self.laid_as([(0, 0)], {}, (0, 0), [(0, 0)])
        self.laid_as([], {0: 0}, (0, 0), [(0, 0)])
        self.laid_as([(0, 0)], {0: None}, (0, 0), [])

    def test_rows_and_drafts_outside_the_stretch(self):
        drafts = {0: 1, 2: 20, 6: 60, 5: None, 9: None}
        self.laid_as(self.ROWS, drafts, (1, 5), [(1, 10), (2, 20), (3, 0)])
        self.laid_as(self.ROWS, drafts, (2, 2), [(2, 20)])
        self.laid_as(self.ROWS, drafts, (6, 9), [(6, 60)])
        self.laid_as(self.ROWS, drafts, (10, 20), [])
        self.laid_as(self.ROWS, drafts, (-9, -1), [(-4, 40)])

    def test_both_ends_are_in_the_stretch(self):
        self.laid_as([(1, 1), (2, 2), (3, 3), (4, 4)], {}, (2, 3), [(2, 2), (3, 3)])
        self.laid_as([], {1: 1, 2: 2, 3: 3, 4: 4}, (2, 3), [(2, 2), (3, 3)])

    def test_an_empty_stretch(self):
        for stretch in [(5, 4), (9, -4), (4, 3), (1, 0)]:
            self.laid_as(self.ROWS, {1: 2, 4: 5, 5: 6, 3: None}, stretch, [])

    def test_the_keys_rise_whatever_the_order_of_the_drafts(self):
        self.laid_as([(5, 50)], {9: 1, -2: 2, 7: 3, 0: 4}, (-9, 9), [(-2, 2), (0, 4), (5, 50), (7, 3), (9, 1)])

    def test_numbers_of_any_size(self):
        huge = 10 ** 5000
        self.laid_as([(-BIG, BIG), (BIG, -BIG)], {0: BIG}, (-BIG, BIG), [(-BIG, BIG), (0, BIG), (BIG, -BIG)])
        self.laid_as([(BIG, 1)], {BIG + 1: 2, BIG - 1: 3}, (BIG, BIG), [(BIG, 1)])
        found = laid([(-huge, huge)], {huge: -huge, huge + 1: 1}, -huge, huge)
        self.assertTrue(found == [(-huge, huge), (huge, -huge)])

    def test_told_key_by_key(self):
        chance = random.Random(22)
        for turn in range(500):
            rows = {key: chance.randint(-2, 2) for key in range(-6, 7) if chance.random() < 0.5}
            drafts = {chance.randint(-6, 6): chance.choice([None, 0, 7, -7]) for many in range(chance.randint(0, 8))}
            low, high = chance.randint(-7, 7), chance.randint(-7, 7)
            wanted = []
            for key in range(-8, 9):
                value = drafts[key] if key in drafts else rows.get(key)
                if low <= key <= high and value is not None:
                    wanted.append((key, value))
            self.laid_as(sorted(rows.items()), drafts, (low, high), wanted)

    def test_what_is_done_later_changes_no_answer(self):
        rows, drafts = [(1, 10), (3, 30)], {3: 31}
        found = laid(rows, drafts, 0, 9)
        found.append((4, 4))
        found[0] = (1, 11)
        self.assertEqual((rows, drafts), ([(1, 10), (3, 30)], {3: 31}))
        found = laid(rows, drafts, 0, 9)
        rows.append((5, 50))
        drafts[1] = None
        self.assertEqual(found, [(1, 10), (3, 31)])
        self.assertEqual(laid(rows, drafts, 0, 9), [(3, 31), (5, 50)])

    def test_a_new_list_each_time(self):
        for rows, drafts in [([], {}), ([(1, 10)], {})]:
            self.assertIsNot(laid(rows, drafts, 0, 9), laid(rows, drafts, 0, 9))
            self.assertEqual(laid(rows, drafts, 0, 9), laid(rows, drafts, 0, 9))

    def test_laid_twice(self):
        once = laid([(1, 10), (3, 30)], {1: None, 2: 20}, 0, 9)
        self.assertEqual(laid(once, {3: None, 1: 11}, 0, 9), [(1, 11), (2, 20)])

    def test_arguments(self):
        self.assertEqual(laid(rows=[(1, 2)], drafts={2: 3}, low=2, high=2), [(2, 3)])
        self.assertEqual(list(inspect.signature(laid).parameters), ["rows", "drafts", "low", "high"])


if __name__ == "__main__":
    unittest.main()
