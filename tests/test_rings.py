"""Points 2, 3, 34 and 35: rings of waits, the one that is told, and who gives way."""

import copy
import inspect
import itertools
import random
import unittest

from skewhouse.rings import gives_way, ring

BIG = 10 ** 30 - 1


def is_ring(waits, chain):
    behind = chain[1:] + chain[:1]
    return all(other in waits.get(one, []) for one, other in zip(chain, behind))


def rings_from(waits, start):
    """All rings from the start, by going through all lists of unlike dealings."""
    others = sorted({other for many in waits.values() for other in many} - {start})
    chains = []
    for many in range(1, len(others) + 1):
        chains += [[start] + list(rest) for rest in itertools.permutations(others, many)]
    return [chain for chain in chains if is_ring(waits, chain)]


def told_ring(waits, start):
    return min(rings_from(waits, start), key=lambda chain: (len(chain), chain), default=None)


class NoRingTest(unittest.TestCase):
    def test_no_waits(self):
        for start in (1, 7, BIG):
            self.assertIsNone(ring({}, start))

    def test_a_start_that_is_not_in_the_dict(self):
        self.assertIsNone(ring({2: [3], 3: [2]}, 1))
        self.assertIsNone(ring({2: [1], 3: [1, 2]}, 1))

    def test_nobody_waits_for_the_start(self):
        self.assertIsNone(ring({1: [2], 2: [3], 3: []}, 1))
        self.assertIsNone(ring({1: [2, 3]}, 1))
        self.assertIsNone(ring({1: [2], 2: [3], 3: [2]}, 1))

    def test_empty_lists(self):
        self.assertIsNone(ring({1: []}, 1))
        self.assertIsNone(ring({1: [], 2: [1], 3: [1, 2]}, 1))
        self.assertIsNone(ring({1: [2], 2: []}, 1))
        self.assertIsNone(ring({1: [], 2: [], 3: []}, 2))

    def test_a_ring_that_does_not_go_through_the_start(self):
        waits = {1: [2], 2: [3], 3: [4], 4: [2]}
        self.assertIsNone(ring(waits, 1))
        self.assertEqual(ring(waits, 2), [2, 3, 4])

    def test_those_who_wait_for_the_start_are_not_come_to(self):
        self.assertIsNone(ring({1: [2], 3: [1], 4: [3]}, 1))

    def test_a_long_way_without_return(self):
        waits = {number: list(range(number + 1, 41)) for number in range(1, 41)}
        for start in (1, 20, 40):
            self.assertIsNone(ring(waits, start))


class RingTest(unittest.TestCase):
    def test_of_two(self):
        waits = {1: [2], 2: [1]}
        self.assertEqual(ring(waits, 1), [1, 2])
        self.assertEqual(ring(waits, 2), [2, 1])

    def test_of_three(self):
        waits = {3: [9], 9: [5], 5: [3]}
        self.assertEqual(ring(waits, 3), [3, 9, 5])
        self.assertEqual(ring(waits, 5), [5, 3, 9])
        self.assertEqual(ring(waits, 9), [9, 5, 3])

    def test_of_all_forty(self):
        numbers = random.Random(34).sample(range(1, 1000), 40)
        waits = {one: [other] for one, other in zip(numbers, numbers[1:] + numbers[:1])}
        for place, start in enumerate(numbers):
            self.assertEqual(ring(waits, start), numbers[place:] + numbers[:place])

    def test_forty_that_all_wait_for_each_other(self):
        waits = {one: [other for other in range(1, 41) if other != one] for one in range(1, 41)}
        self.assertEqual(ring(waits, 1), [1, 2])
        for start in range(2, 41):
            self.assertEqual(ring(waits, start), [start, 1])

    def test_the_least_of_two_of_the_same_length(self):
        self.assertEqual(ring({1: [2, 3], 2: [1], 3: [1]}, 1), [1, 2])
        self.assertEqual(ring({4: [2, 9], 2: [8], 9: [3], 3: [4], 8: [4]}, 4), [4, 2, 8])
        self.assertEqual(ring({1: [2, 3], 2: [4, 5], 3: [4, 5], 4: [9], 5: [1], 9: [1]}, 1), [1, 2, 5])
        self.assertEqual(ring({1: [2], 2: [3, 4], 3: [1], 4: [1]}, 1), [1, 2, 3])

    def test_the_first_unlike_place_decides(self):
        waits = {1: [2, 3], 2: [9], 3: [4], 9: [1], 4: [1]}
        self.assertEqual(ring(waits, 1), [1, 2, 9])

    def test_two_ways_to_one_dealing(self):
        waits = {1: [3, 5], 3: [7], 5: [7], 7: [8], 8: [1]}
        self.assertEqual(ring(waits, 1), [1, 3, 7, 8])

    def test_numbers_are_compared_as_numbers(self):
        self.assertEqual(ring({1: [9, 10], 9: [1], 10: [1]}, 1), [1, 9])
        self.assertEqual(ring({1: [9, 10], 9: [2], 10: [1], 2: [1]}, 1), [1, 10])

    def test_a_longer_one_beside_a_shorter_one(self):
        self.assertEqual(ring({1: [2, 9], 2: [3], 3: [1], 9: [1]}, 1), [1, 9])
        self.assertEqual(ring({1: [2], 2: [3, 9], 3: [4], 4: [1], 9: [1]}, 1), [1, 2, 9])
        self.assertEqual(ring({1: [2], 2: [1, 3], 3: [1]}, 1), [1, 2])

    def test_a_ring_beside_the_start(self):
        waits = {1: [2], 2: [3], 3: [2, 4], 4: [1]}
        self.assertEqual(ring(waits, 1), [1, 2, 3, 4])
        self.assertEqual(ring(waits, 2), [2, 3])

    def test_numbers_of_any_size(self):
        waits = {BIG: [1, BIG - 1], BIG - 1: [BIG], 1: [BIG - 2]}
        self.assertEqual(ring(waits, BIG), [BIG, BIG - 1])
        waits = {10 ** 50: [7], 7: [10 ** 50 + 1], 10 ** 50 + 1: [10 ** 50]}
        self.assertEqual(ring(waits, 10 ** 50), [10 ** 50, 7, 10 ** 50 + 1])

    def test_the_order_of_the_dict_counts_for_nothing(self):
        waits = {1: [2, 3, 4], 2: [5], 3: [1], 4: [1], 5: [1]}
        for keys in itertools.permutations(waits):
            self.assertEqual(ring({key: waits[key] for key in keys}, 1), [1, 3])

    def waits_by_chance(self, chance, many):
        """Some waits, and besides in half of the cases one ring through all."""
        share = chance.choice([0.05, 0.15, 0.3, 0.5])
        numbers = chance.sample(range(1, many + 1), many)
        waits = {}
        for one in numbers:
            if chance.random() < 0.9:
                waits[one] = [other for other in range(1, many + 1) if other != one and chance.random() < share]
        if chance.random() < 0.5:
            for one, behind in zip(numbers, numbers[1:] + numbers[:1]):
                waits[one] = sorted(set(waits.get(one, []) + [behind]))
        return waits

    def test_against_all_rings(self):
        found = {None: 0}
        for seed in range(400):
            chance = random.Random(seed)
            many = chance.randint(2, 6)
            waits = self.waits_by_chance(chance, many)
            for start in range(1, many + 1):
                wanted = told_ring(waits, start)
                self.assertEqual(ring(waits, start), wanted, (waits, start))
                length = wanted and len(wanted)
                found[length] = found.get(length, 0) + 1
        for length in (None, 2, 3, 4, 5, 6):
            self.assertGreater(found[length], 5, found)


class GivesWayTest(unittest.TestCase):
    def test_one_dealing(self):
        self.assertEqual(gives_way([3], {3: 7}), 3)
        self.assertEqual(gives_way([3], {3: 7, 1: 9, 2: 1}), 3)

    def test_the_one_that_began_last(self):
        self.assertEqual(gives_way([1, 2], {1: 5, 2: 4}), 1)
        self.assertEqual(gives_way([1, 2], {1: 4, 2: 5}), 2)
        self.assertEqual(gives_way([4, 2, 9], {4: 10, 2: 30, 9: 20}), 2)

    def test_neither_the_greatest_number_nor_the_last_in_the_list(self):
        self.assertEqual(gives_way([9, 2, 5], {9: 1, 2: 8, 5: 3}), 2)
        self.assertEqual(gives_way([9, 2, 5], {9: 8, 2: 1, 5: 3}), 9)

    def test_in_any_order_of_the_list(self):
        begins = {1: 12, 2: 40, 3: 7, 4: 39}
        for chain in itertools.permutations(begins):
            self.assertEqual(gives_way(list(chain), begins), 2)
            for many in range(1, 4):
                part = list(chain[:many])
                self.assertEqual(gives_way(part, begins), [one for one in (2, 4, 1, 3) if one in part][0])

    def test_others_in_begins(self):
        self.assertEqual(gives_way([2, 3], {1: 99, 2: 5, 3: 4, 4: 100}), 2)
        self.assertEqual(gives_way([3, 2], {BIG: BIG, 3: 5, 2: 4}), 3)

    def test_numbers_of_any_size(self):
        self.assertEqual(gives_way([BIG, 1], {BIG: 2, 1: BIG}), 1)
        self.assertEqual(gives_way([BIG, 10 ** 60], {BIG: 10 ** 50 + 1, 10 ** 60: 10 ** 50}), BIG)
        self.assertEqual(gives_way([1, 2, 3], {1: -5, 2: 0, 3: -7}), 2)

    def test_forty(self):
        numbers = list(range(1, 41))
        stamps = random.Random(35).sample(range(1, 400), 40)
        begins = dict(zip(numbers, stamps))
        self.assertEqual(gives_way(numbers, begins), numbers[stamps.index(max(stamps))])


class HandedInTest(unittest.TestCase):
    def test_what_is_handed_in_stays(self):
        waits = {1: [2, 3], 2: [4], 3: [4, 5], 4: [], 5: [1]}
        before = copy.deepcopy(waits)
        for start in (1, 2, 4, 9):
            ring(waits, start)
            self.assertEqual(waits, before)
            self.assertEqual(list(waits), list(before))
        chain, begins = [3, 1, 2], {2: 5, 1: 9, 3: 7, 4: 10}
        self.assertEqual(gives_way(chain, begins), 1)
        self.assertEqual((chain, begins), ([3, 1, 2], {2: 5, 1: 9, 3: 7, 4: 10}))

    def test_the_list_given_is_a_new_one(self):
        waits = {1: [2], 2: [1]}
        given = ring(waits, 1)
        self.assertIsInstance(given, list)
        given.append(7)
        given[0] = 9
        self.assertEqual(waits, {1: [2], 2: [1]})
        self.assertEqual(ring(waits, 1), [1, 2])
        self.assertIsNot(ring(waits, 1), ring(waits, 1))

    def test_asked_again(self):
        waits = {1: [2, 3], 2: [1], 3: [1]}
        self.assertEqual([ring(waits, 1) for turn in range(3)], [[1, 2]] * 3)
        self.assertEqual([ring(waits, 4) for turn in range(3)], [None] * 3)
        self.assertEqual([gives_way([1, 2], {1: 3, 2: 4}) for turn in range(3)], [2] * 3)

    def test_changed_between_two_questions(self):
        waits = {1: [2], 2: [1]}
        told = ring(waits, 1)
        waits[2].clear()
        self.assertEqual(told, [1, 2])
        self.assertIsNone(ring(waits, 1))

    def test_arguments(self):
        self.assertEqual(list(inspect.signature(ring).parameters), ["waits", "start"])
        self.assertEqual(list(inspect.signature(gives_way).parameters), ["chain", "begins"])
        self.assertEqual(ring(waits={1: [2], 2: [1]}, start=2), [2, 1])
        self.assertEqual(gives_way(chain=[1, 2], begins={1: 3, 2: 4}), 2)


if __name__ == "__main__":
    unittest.main()
