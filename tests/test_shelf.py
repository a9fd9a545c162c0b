"""Points 2, 3 and 23 to 26: the shelf, its makes, what is there at a stamp, and that it stays."""

import inspect
import random
import unittest

from skewhouse.shelf import Shelf
from skewhouse.stretches import laid

BIG = 10 ** 30 - 1
LOW, HIGH = -10 ** 40, 10 ** 40


class Ledger:
    """A second account of a shelf: the first rows and the puts, gone through anew for each answer."""

    def __init__(self, rows):
        self.first = sorted(rows.items())
        self.puts = []

    def put(self, stamp, dealing, drafts):
        self.puts.append((stamp, dealing, sorted(drafts.items())))

    def makes(self, key, stamp):
        found = [(0, 0, value) for first, value in self.first if first == key]
        for put_stamp, dealing, drafts in self.puts:
            if put_stamp <= stamp:
                found += [(put_stamp, dealing, value) for put_key, value in drafts if put_key == key]
        return found

    def make(self, key, stamp):
        return ([(0, 0, None)] + self.makes(key, stamp))[-1]

    def there(self, stamp):
        rows = dict(self.first)
        for put_stamp, dealing, drafts in self.puts:
            if put_stamp <= stamp:
                rows.update(drafts)
        return sorted((key, value) for key, value in rows.items() if value is not None)

    def last(self):
        return max([0] + [put[0] for put in self.puts])

    def makers(self, key):
        return [make[1] for make in self.makes(key, self.last()) if make[1] > 0]

    def touched(self, low, high):
        keys = {key for stamp, dealing, drafts in self.puts for key, value in drafts}
        return sorted(key for key in keys if low <= key <= high)


def puts_of(shelf, puts):
    for stamp, dealing, drafts in puts:
        shelf.put(stamp, dealing, drafts)
    return shelf


class FirstRowsTest(unittest.TestCase):
    def test_each_first_row_is_a_make_of_the_start(self):
        shelf = Shelf({5: 50, -2: 0, 9: -90})
        for key, value in [(5, 50), (-2, 0), (9, -90)]:
            self.assertEqual(shelf.newest(key), (0, 0, value))
            for stamp in (0, 1, 7, BIG):
                self.assertEqual(shelf.make(key, stamp), (0, 0, value))

    def test_what_is_there_at_first(self):
        shelf = Shelf({5: 50, -2: 0, 9: -90})
        for stamp in (0, 1, BIG):
            self.assertEqual(shelf.there(stamp), [(-2, 0), (5, 50), (9, -90)])
            self.assertEqual(shelf.rows(-2, 5, stamp), [(-2, 0), (5, 50)])

    def test_a_first_row_alone_touches_nothing(self):
        shelf = Shelf({5: 50, -2: 0})
        self.assertEqual(shelf.touched(LOW, HIGH), [])
        self.assertEqual(shelf.makers(5), [])

    def test_none_of_them(self):
        shelf = Shelf({})
        for stamp in (0, 1, BIG):
            self.assertEqual(shelf.make(5, stamp), (0, 0, None))
            self.assertEqual(shelf.there(stamp), [])
            self.assertEqual(shelf.rows(LOW, HIGH, stamp), [])
        self.assertEqual(shelf.newest(5), (0, 0, None))
        self.assertEqual(shelf.touched(LOW, HIGH), [])
        self.assertEqual(shelf.makers(5), [])

    def test_a_hundred_first_rows_in_any_order(self):
        keys = random.Random(3).sample(range(-500, 500), 100)
        shelf = Shelf({key: key * 3 for key in keys})
        self.assertEqual(shelf.there(0), [(key, key * 3) for key in sorted(keys)])


class MakeTest(unittest.TestCase):
    PUTS = [(4, 2, {5: 51}), (7, 1, {5: None, 6: 60}), (20, 2, {5: 52})]

    def test_at_one_below_and_one_above_each_stamp(self):
        shelf = puts_of(Shelf({5: 50}), self.PUTS)
        start, first, second, third = (0, 0, 50), (4, 2, 51), (7, 1, None), (20, 2, 52)
        wanted = {0: start, 1: start, 3: start, 4: first, 5: first, 6: first, 7: second, 8: second, 19: second}
        wanted.update({20: third, 21: third, 1000: third, BIG: third})
        for stamp, make in wanted.items():
            with self.subTest(stamp):
                self.assertEqual(shelf.make(5, stamp), make)

    def test_of_a_key_without_a_first_row(self):
        shelf = puts_of(Shelf({5: 50}), self.PUTS)
        for stamp in (0, 1, 4, 6):
            self.assertEqual(shelf.make(6, stamp), (0, 0, None))
        for stamp in (7, 8, 20, BIG):
            self.assertEqual(shelf.make(6, stamp), (7, 1, 60))

    def test_of_a_key_that_nobody_knows(self):
        shelf = puts_of(Shelf({5: 50}), self.PUTS)
        for key in (4, 7, -5, BIG):
            self.assertEqual(shelf.newest(key), (0, 0, None))
            self.assertEqual(shelf.makers(key), [])
            for stamp in (0, 7, BIG):
                self.assertEqual(shelf.make(key, stamp), (0, 0, None))

    def test_the_newest_make(self):
        shelf = Shelf({5: 50})
        wanted = [(4, 2, 51), (7, 1, None), (20, 2, 52)]
        for put, make in zip(self.PUTS, wanted):
            puts_of(shelf, [put])
            self.assertEqual(shelf.newest(5), make)
        self.assertEqual(shelf.newest(6), (7, 1, 60))

    def test_makes_are_tuples(self):
        shelf = puts_of(Shelf({5: 50}), self.PUTS)
        for make in [shelf.make(5, 0), shelf.make(5, 9), shelf.make(8, 9), shelf.newest(5), shelf.newest(8)]:
            self.assertIs(type(make), tuple)

    def test_none_that_is_put(self):
        shelf = puts_of(Shelf({5: 50}), [(1, 1, {5: None, 6: None})])
        self.assertEqual(shelf.newest(5), (1, 1, None))
        self.assertEqual(shelf.newest(6), (1, 1, None))
        self.assertEqual(shelf.make(6, 0), (0, 0, None))
        self.assertEqual(shelf.there(0), [(5, 50)])
        self.assertEqual(shelf.there(1), [])
        self.assertEqual(shelf.touched(LOW, HIGH), [5, 6])
        self.assertEqual((shelf.makers(5), shelf.makers(6)), ([1], [1]))

    def test_the_same_value_put_again_is_a_make_more(self):
        shelf = puts_of(Shelf({5: 50}), [(1, 1, {5: 50}), (2, 2, {5: 50}), (3, 1, {6: None}), (4, 3, {6: None})])
        self.assertEqual([shelf.make(5, stamp) for stamp in (0, 1, 2)], [(0, 0, 50), (1, 1, 50), (2, 2, 50)])
        self.assertEqual([shelf.make(6, stamp) for stamp in (2, 3, 4)], [(0, 0, None), (3, 1, None), (4, 3, None)])
        self.assertEqual((shelf.makers(5), shelf.makers(6)), ([1, 2], [1, 3]))

    def test_drafts_without_keys_add_nothing(self):
        shelf = puts_of(Shelf({5: 50}), [(1, 1, {}), (2, 1, {5: 51}), (9, 2, {}), (10, 3, {5: 52})])
        self.assertEqual(shelf.make(5, 1), (0, 0, 50))
        self.assertEqual(shelf.make(5, 9), (2, 1, 51))
        self.assertEqual(shelf.newest(5), (10, 3, 52))
        self.assertEqual(shelf.makers(5), [1, 3])
        self.assertEqual(shelf.touched(LOW, HIGH), [5])
        self.assertEqual(puts_of(Shelf({}), [(1, 1, {})]).there(1), [])

    def test_put_gives_back_nothing(self):
        shelf = Shelf({})
        self.assertIsNone(shelf.put(1, 1, {5: 1}))
        self.assertIsNone(shelf.put(2, 1, {}))

    def test_stamps_and_dealings_of_thirty_figures(self):
        shelf = puts_of(Shelf({}), [(1, BIG, {5: 1}), (BIG - 1, 1, {5: 2}), (BIG, BIG - 1, {5: 3})])
        self.assertEqual(shelf.make(5, BIG - 2), (1, BIG, 1))
        self.assertEqual(shelf.make(5, BIG - 1), (BIG - 1, 1, 2))
        self.assertEqual(shelf.make(5, BIG), (BIG, BIG - 1, 3))
        self.assertEqual(shelf.makers(5), [BIG, 1, BIG - 1])


class RowsTest(unittest.TestCase):
    def test_rows_of_a_stretch(self):
        shelf = puts_of(Shelf({1: 10, 3: 30, 5: 0, 9: 90}), [(2, 1, {3: None, 4: 0, 9: 91}), (4, 2, {3: 33, 1: None})])
        self.assertEqual(shelf.rows(1, 5, 0), [(1, 10), (3, 30), (5, 0)])
        self.assertEqual(shelf.rows(1, 5, 1), [(1, 10), (3, 30), (5, 0)])
        self.assertEqual(shelf.rows(1, 5, 2), [(1, 10), (4, 0), (5, 0)])
        self.assertEqual(shelf.rows(1, 5, 3), [(1, 10), (4, 0), (5, 0)])
        self.assertEqual(shelf.rows(1, 5, 4), [(3, 33), (4, 0), (5, 0)])
        self.assertEqual(shelf.rows(9, 9, 2), [(9, 91)])
        self.assertEqual(shelf.rows(9, 9, 1), [(9, 90)])
        self.assertEqual(shelf.rows(6, 8, BIG), [])
        self.assertEqual(shelf.rows(2, 9, BIG), [(3, 33), (4, 0), (5, 0), (9, 91)])

    def test_an_empty_stretch(self):
        shelf = puts_of(Shelf({1: 10, 3: 30}), [(1, 1, {2: 20})])
        for low, high in [(3, 1), (2, 1), (HIGH, LOW)]:
            self.assertEqual(shelf.rows(low, high, 1), [])
            self.assertEqual(shelf.touched(low, high), [])

    def test_keys_rise_whatever_the_order_of_the_puts(self):
        shelf = puts_of(Shelf({7: 1, -7: 2, 0: 3}), [(1, 1, {9: 4, -9: 5}), (2, 2, {4: 6, 8: 7}), (3, 1, {-1: 8})])
        keys = [-9, -7, -1, 0, 4, 7, 8, 9]
        self.assertEqual([row[0] for row in shelf.there(3)], keys)
        self.assertEqual([row[0] for row in shelf.rows(-8, 8, 3)], keys[1:-1])
        self.assertEqual(shelf.touched(LOW, HIGH), [-9, -1, 4, 8, 9])
        self.assertEqual(shelf.touched(-1, 8), [-1, 4, 8])

    def test_keys_and_values_of_any_size(self):
        huge = 10 ** 5000
        shelf = puts_of(Shelf({huge: -huge, -BIG: BIG}), [(1, 1, {-huge: huge, 0: 0}), (2, 2, {huge: None})])
        self.assertTrue(shelf.there(1) == [(-huge, huge), (-BIG, BIG), (0, 0), (huge, -huge)])
        self.assertTrue(shelf.there(2) == [(-huge, huge), (-BIG, BIG), (0, 0)])
        self.assertTrue(shelf.rows(-huge + 1, huge - 1, 1) == [(-BIG, BIG), (0, 0)])
        self.assertTrue(shelf.touched(-huge, huge) == [-huge, 0, huge])
        self.assertTrue(shelf.make(huge, 1) == (0, 0, -huge))

    def test_kinds(self):
        shelf = puts_of(Shelf({1: 10}), [(1, 1, {2: 20})])
        for found in [shelf.rows(0, 9, 1), shelf.there(1)]:
            self.assertIs(type(found), list)
            self.assertEqual([type(row) for row in found], [tuple, tuple])
        self.assertEqual((type(shelf.touched(0, 9)), type(shelf.makers(2))), (list, list))


class MakersTest(unittest.TestCase):
    def test_one_for_each_make_in_their_order(self):
        puts = [(1, 3, {5: 1}), (2, 1, {5: 2, 6: 1}), (3, 3, {5: None}), (4, 3, {5: 4}), (6, 2, {6: 2})]
        shelf = puts_of(Shelf({5: 50, 7: 70}), puts)
        self.assertEqual(shelf.makers(5), [3, 1, 3, 3])
        self.assertEqual(shelf.makers(6), [1, 2])
        self.assertEqual(shelf.makers(7), [])
        self.assertEqual(shelf.makers(8), [])

    def test_the_same_dealing_putting_often(self):
        shelf = Shelf({5: 0})
        for stamp in range(1, 401):
            shelf.put(stamp, 7, {5: stamp * 2})
        self.assertEqual(shelf.makers(5), [7] * 400)
        self.assertEqual(shelf.touched(5, 5), [5])
        for stamp in range(0, 401):
            self.assertEqual(shelf.make(5, stamp), (stamp, 7 if stamp else 0, stamp * 2))

    def test_touched_keys_of_a_stretch(self):
        shelf = puts_of(Shelf({1: 10, 2: 20, 3: 30}), [(1, 1, {2: 20, 5: None, 9: 0})])
        self.assertEqual(shelf.touched(LOW, HIGH), [2, 5, 9])
        self.assertEqual(shelf.touched(2, 5), [2, 5])
        self.assertEqual(shelf.touched(3, 4), [])
        self.assertEqual(shelf.touched(1, 1), [])
        self.assertEqual(shelf.touched(5, 5), [5])
        self.assertEqual(shelf.touched(6, 9), [9])


class AgainstTheLedgerTest(unittest.TestCase):
    KEYS = [-BIG, -7, -3, -1, 0, 1, 2, 3, 8, BIG]

    def drafts_by(self, chance):
        keys = chance.sample(self.KEYS, chance.choice([0, 1, 1, 2, 3, 6]))
        return {key: chance.choice([None, None, 0, 1, -5, BIG]) for key in keys}

    def same(self, shelf, ledger, stamps, chance):
        for stamp in stamps:
            self.assertEqual(shelf.there(stamp), ledger.there(stamp))
            low, high = chance.choice(self.KEYS), chance.choice(self.KEYS)
            wanted = [row for row in ledger.there(stamp) if low <= row[0] <= high]
            self.assertEqual(shelf.rows(low, high, stamp), wanted)
            self.assertEqual(shelf.touched(low, high), ledger.touched(low, high))
            for key in self.KEYS:
                self.assertEqual(shelf.make(key, stamp), ledger.make(key, stamp))
        for key in self.KEYS:
            self.assertEqual(shelf.newest(key), ledger.make(key, ledger.last()))
            self.assertEqual(shelf.makers(key), ledger.makers(key))

    def test_shelves_by_chance(self):
        for seed in range(60):
            chance = random.Random(seed)
            first = {key: chance.randint(-3, 3) for key in chance.sample(self.KEYS, chance.randint(0, 6))}
            shelf, ledger, stamp = Shelf(first), Ledger(first), 0
            for turn in range(chance.randint(0, 15)):
                stamp += chance.choice([1, 1, 2, 5])
                drafts, dealing = self.drafts_by(chance), chance.randint(1, 4)
                shelf.put(stamp, dealing, drafts)
                ledger.put(stamp, dealing, drafts)
                self.same(shelf, ledger, [0, stamp - 1, stamp, stamp + 1], chance)
            self.same(shelf, ledger, list(range(stamp + 3)) + [BIG], chance)


class WhatWasThereStaysTest(unittest.TestCase):
    PUTS = [(2, 1, {1: 11, 4: 40}), (3, 2, {3: None}), (5, 1, {}), (6, 3, {1: None, 3: 0}), (9, 2, {4: 41, -8: 1})]
    KEYS = [-8, 1, 2, 3, 4]

    def told(self, shelf, stamp):
        makes = [shelf.make(key, stamp) for key in self.KEYS]
        return (shelf.there(stamp), shelf.rows(-8, 3, stamp), shelf.rows(2, 9, stamp), makes)

    def test_asked_again_behind_all_later_puts(self):
        shelf, before = Shelf({1: 10, 3: 30}), {}
        for put_stamp, dealing, drafts in self.PUTS:
            for stamp in range(put_stamp):
                answer = self.told(shelf, stamp)
                self.assertEqual(before.setdefault(stamp, answer), answer)
            shelf.put(put_stamp, dealing, drafts)
            before[put_stamp] = self.told(shelf, put_stamp)
        for stamp, answer in before.items():
            self.assertEqual(self.told(shelf, stamp), answer)

    def test_what_is_there_written_out(self):
        shelf = puts_of(Shelf({1: 10, 3: 30}), self.PUTS)
        wanted = {
            0: [(1, 10), (3, 30)], 1: [(1, 10), (3, 30)], 2: [(1, 11), (3, 30), (4, 40)], 3: [(1, 11), (4, 40)],
            4: [(1, 11), (4, 40)], 5: [(1, 11), (4, 40)], 6: [(3, 0), (4, 40)], 8: [(3, 0), (4, 40)],
            9: [(-8, 1), (3, 0), (4, 41)], 10: [(-8, 1), (3, 0), (4, 41)],
        }
        for stamp, rows in wanted.items():
            self.assertEqual(shelf.there(stamp), rows)

    def test_a_put_lays_its_drafts_over_what_was_there(self):
        shelf = Shelf({1: 10, 3: 30})
        for stamp, dealing, drafts in self.PUTS:
            ahead = shelf.there(stamp)
            shelf.put(stamp, dealing, drafts)
            self.assertEqual(shelf.there(stamp), laid(ahead, drafts, LOW, HIGH))
            self.assertEqual(shelf.rows(1, 3, stamp), laid(ahead, drafts, 1, 3))
            self.assertEqual(shelf.there(stamp - 1), ahead)

    def test_asking_changes_nothing(self):
        shelf = puts_of(Shelf({1: 10, 3: 30}), self.PUTS)
        answers = [self.told(shelf, stamp) for stamp in range(12)]
        shelf.make(77, 3), shelf.newest(78), shelf.makers(79), shelf.rows(70, 80, 3), shelf.touched(70, 80)
        self.assertEqual([self.told(shelf, stamp) for stamp in range(12)], answers)
        self.assertEqual(shelf.touched(LOW, HIGH), [-8, 1, 3, 4])


class HandedInTest(unittest.TestCase):
    def test_dicts_stay_as_they_were(self):
        rows, drafts = {5: 50, 1: 10}, {9: 1, 5: None}
        shelf = Shelf(rows)
        shelf.put(1, 1, drafts)
        shelf.there(1)
        self.assertEqual(list(rows.items()), [(5, 50), (1, 10)])
        self.assertEqual(list(drafts.items()), [(9, 1), (5, None)])

    def test_dicts_that_are_changed_behind_the_call(self):
        rows, drafts = {5: 50}, {6: 60}
        shelf = Shelf(rows)
        rows[5] = 51
        rows[7] = 70
        self.assertEqual(shelf.there(0), [(5, 50)])
        shelf.put(1, 1, drafts)
        drafts[6] = None
        drafts[8] = 80
        self.assertEqual(shelf.there(1), [(5, 50), (6, 60)])
        self.assertEqual(shelf.touched(LOW, HIGH), [6])
        rows.clear()
        drafts.clear()
        self.assertEqual(shelf.there(1), [(5, 50), (6, 60)])

    def test_one_dict_put_again_and_again(self):
        shelf, drafts = Shelf({}), {1: 1}
        for stamp in (1, 2, 3):
            shelf.put(stamp, 1, drafts)
            drafts[1] += 1
        self.assertEqual([shelf.make(1, stamp)[2] for stamp in (1, 2, 3)], [1, 2, 3])

    def test_lists_that_are_changed_behind_the_call(self):
        shelf = puts_of(Shelf({5: 50}), [(1, 1, {6: 60})])
        asks = [
            lambda: shelf.there(1), lambda: shelf.rows(0, 9, 1), lambda: shelf.touched(0, 9),
            lambda: shelf.makers(6), lambda: shelf.makers(5), lambda: shelf.makers(8),
            lambda: shelf.rows(7, 9, 1), lambda: shelf.touched(7, 9),
        ]
        for ask in asks:
            before = list(ask())
            ask().append("more")
            self.assertEqual(ask(), before)
            ask().clear()
            self.assertEqual(ask(), before)
            self.assertIsNot(ask(), ask())

    def test_two_shelves_of_the_same_dict(self):
        rows = {5: 50}
        one, other = Shelf(rows), Shelf(rows)
        one.put(1, 1, {5: 51, 6: 60})
        self.assertEqual((one.there(1), other.there(1)), ([(5, 51), (6, 60)], [(5, 50)]))
        self.assertEqual((other.touched(LOW, HIGH), other.makers(5)), ([], []))
        self.assertEqual(other.newest(5), (0, 0, 50))
        other.put(1, 2, {5: None})
        self.assertEqual((one.newest(5), other.newest(5)), ((1, 1, 51), (1, 2, None)))
        self.assertEqual(rows, {5: 50})

    def test_two_empty_shelves_and_the_same_drafts(self):
        one, other, drafts = Shelf({}), Shelf({}), {6: 60}
        one.put(1, 1, drafts)
        self.assertEqual(other.there(1), [])
        other.put(3, 2, drafts)
        self.assertEqual((one.makers(6), other.makers(6)), ([1], [2]))

    def test_what_a_shelf_told_is_handed_in_again(self):
        shelf = puts_of(Shelf({5: 10 ** 50}), [(1, 1, {6: 10 ** 60})])
        again = Shelf(dict(shelf.there(1)))
        self.assertEqual(again.there(0), [(5, 10 ** 50), (6, 10 ** 60)])
        self.assertEqual(again.touched(LOW, HIGH), [])

    def test_arguments(self):
        shelf = Shelf(rows={5: 50})
        shelf.put(stamp=1, dealing=2, drafts={6: 60})
        self.assertEqual(shelf.make(key=6, stamp=1), shelf.newest(key=6))
        self.assertEqual(shelf.rows(low=6, high=9, stamp=1), [(6, 60)])
        self.assertEqual(shelf.there(stamp=0), [(5, 50)])
        self.assertEqual((shelf.touched(low=0, high=9), shelf.makers(key=6)), ([6], [2]))
        wanted = {
            "put": ["stamp", "dealing", "drafts"], "make": ["key", "stamp"], "newest": ["key"],
            "rows": ["low", "high", "stamp"], "there": ["stamp"], "touched": ["low", "high"], "makers": ["key"],
        }
        for name, names in wanted.items():
            self.assertEqual(list(inspect.signature(getattr(shelf, name)).parameters), names)
        self.assertEqual(list(inspect.signature(Shelf).parameters), ["rows"])


if __name__ == "__main__":
    unittest.main()
