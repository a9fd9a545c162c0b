"""Points 2, 74 and 75: orders of nodes, and the ring of the fewest."""

import copy
import inspect
import itertools
import random
import unittest

from skewhouse.graphs import least_ring, order_of
from tests.helper import fewest_ring, least_order

HUGE = 10 ** 5000
A, B, C, D, E, F = [(1, 0), (1, 1), (2, 0), (3, 0), (3, 7), (4, -2)]


def orders(nodes, pairs):
    """All orders of the nodes, by the words of point 74, in the order in which lists are compared."""
    found = []
    for order in itertools.permutations(sorted(nodes)):
        if all(order.index(one) < order.index(other) for one, other in pairs):
            found.append(list(order))
    return found


def rings(nodes, pairs):
    """All rings of nodes that begin with their least one, by the words of point 75."""
    found = []
    for many in range(2, len(nodes) + 1):
        for ring in itertools.permutations(nodes, many):
            if ring[0] == min(ring) and all(pair in pairs for pair in zip(ring, ring[1:] + ring[:1])):
                found.append(list(ring))
    return found


def drawn_pairs(chance, nodes, many):
    pairs = [tuple(chance.sample(nodes, 2)) for turn in range(many)] if len(nodes) > 1 else []
    return pairs + [pair for pair in pairs if chance.random() < 0.2]


def drawn_far_pairs(chance, nodes):
    """Short steps along the nodes, and a few far ones back: so the rings are long, and several are of the same length."""
    pairs = []
    for at, node in enumerate(nodes):
        behind = nodes[at + 1:at + 4]
        pairs += [(node, other) for other in behind if chance.random() < 0.7]
    for turn in range(chance.randint(1, 3)):
        at = chance.randrange(len(nodes) - 5)
        pairs.append((chance.choice(nodes[at + 5:]), nodes[at]))
    return pairs


def drawn_nodes(chance, many):
    numbers = [-HUGE, -12, -3, -1, 0, 1, 2, 9, 10, 11, HUGE, HUGE + 1]
    return chance.sample(list(itertools.product(numbers, numbers)), many)


class OrderTest(unittest.TestCase):
    def test_no_nodes(self):
        self.assertEqual(order_of([], []), [])

    def test_no_pairs(self):
        self.assertEqual(order_of([A], []), [A])
        self.assertEqual(order_of([D, B, F, C, A, E], []), [A, B, C, D, E, F])

    def test_each_pair_holds(self):
        self.assertEqual(order_of([A, B], [(B, A)]), [B, A])
        self.assertEqual(order_of([A, B, C], [(C, B), (B, A)]), [C, B, A])
        self.assertEqual(order_of([A, B, C], [(B, A), (C, B), (C, A)]), [C, B, A])

    def test_always_the_least_that_may_come_next(self):
        self.assertEqual(order_of([A, B, C, D], [(D, A)]), [B, C, D, A])
        self.assertEqual(order_of([A, B, C, D], [(C, A)]), [B, C, A, D])
        self.assertEqual(order_of([A, B, C, D], [(B, A)]), [B, A, C, D])
        # Not the one that has been free for longest, and not the one that came free last.
        self.assertEqual(order_of([A, B, C, D, E], [(B, A), (B, D)]), [B, A, C, D, E])
        self.assertEqual(order_of([A, B, C, D, E], [(A, E), (B, D)]), [A, B, C, D, E])

    def test_all_that_must_stand_ahead_count(self):
        self.assertEqual(order_of([A, B, C, D], [(C, A), (D, A), (B, A)]), [B, C, D, A])
        self.assertEqual(order_of([A, B, C, D], [(D, B), (C, A), (B, A)]), [C, D, B, A])

    def test_nodes_in_any_order(self):
        pairs = [(F, A), (E, B), (C, D), (D, A)]
        found = {tuple(order_of(list(nodes), pairs)) for nodes in itertools.permutations([A, B, C, D, E, F])}
        self.assertEqual(found, {(C, D, E, B, F, A)})

    def test_pairs_in_any_order_and_several_times(self):
        pairs = [(C, A), (D, B), (B, A)]
        for changed in itertools.permutations(pairs + [(C, A), (B, A), (C, A)]):
            self.assertEqual(order_of([A, B, C, D], list(changed)), [C, D, B, A])

    def test_numbers_of_many_figures_and_below_0(self):
        nodes = [(HUGE, 0), (-HUGE, 0), (-1, 5), (0, -HUGE), (0, HUGE), (-2, 0), (10, 0), (9, 0), (-10, 0)]
        self.assertEqual(order_of(nodes, []), sorted(nodes))
        found = order_of(nodes, [((HUGE, 0), (-HUGE, 0)), ((0, HUGE), (-1, 5))])
        self.assertEqual(found, [
            (-10, 0), (-2, 0), (0, -HUGE), (0, HUGE), (-1, 5), (9, 0), (10, 0), (HUGE, 0), (-HUGE, 0),
        ])

    def test_none_where_there_is_a_ring(self):
        self.assertIsNone(order_of([A, B], [(A, B), (B, A)]))
        self.assertIsNone(order_of([A, B, C], [(A, B), (B, C), (C, A)]))
        self.assertIsNone(order_of([A, B, C, D], [(B, C), (C, B)]))
        self.assertIsNone(order_of([A, B, C, D], [(A, B), (B, C), (C, B), (C, D)]))
        self.assertIsNone(order_of([A, B, C, D], [(C, D), (D, C), (A, B), (B, A)]))

    def test_many_nodes(self):
        nodes = [(number, 0) for number in range(400)]
        back = [(later, node) for node, later in zip(nodes, nodes[1:])]
        self.assertEqual(order_of(nodes, back), nodes[::-1])
        self.assertIsNone(order_of(nodes, back + [(nodes[0], nodes[-1])]))


class RingTest(unittest.TestCase):
    def test_none(self):
        self.assertIsNone(least_ring([], []))
        self.assertIsNone(least_ring([A], []))
        self.assertIsNone(least_ring([A, B, C], []))
        self.assertIsNone(least_ring([A, B, C], [(A, B), (B, C), (A, C)]))
        self.assertIsNone(least_ring([A, B, C, D], [(A, B), (A, C), (B, D), (C, D)]))
        self.assertIsNone(least_ring([A, B], [(B, A), (B, A)]))

    def test_two_nodes(self):
        for pairs in itertools.permutations([(A, B), (B, A), (B, A)]):
            self.assertEqual(least_ring([B, A], list(pairs)), [A, B])

    def test_it_begins_with_its_least_node(self):
        for nodes in itertools.permutations([B, D, C]):
            self.assertEqual(least_ring(list(nodes), [(D, C), (C, B), (B, D)]), [B, D, C])
            self.assertEqual(least_ring(list(nodes), [(D, B), (B, C), (C, D)]), [B, C, D])

    def test_nodes_ahead_of_a_ring_and_behind_it(self):
        pairs = [(A, B), (B, C), (C, D), (D, B), (D, E), (A, E)]
        self.assertEqual(least_ring([A, B, C, D, E], pairs), [B, C, D])

    def test_the_fewest_nodes(self):
        three = [(A, B), (B, C), (C, A)]
        self.assertEqual(least_ring([A, B, C, D, E], three + [(E, D), (D, E)]), [D, E])
        self.assertEqual(least_ring([A, B, C, D, E], three + [(D, C), (C, D)]), [C, D])
        self.assertEqual(least_ring([A, B, C, D], three + [(C, D), (D, A)]), [A, B, C])
        self.assertEqual(least_ring([A, B, C, D], [(A, D), (D, B), (B, C), (C, A), (C, D)]), [B, C, D])

    def test_of_those_the_least_first_node(self):
        two = [(E, F), (F, E)]
        self.assertEqual(least_ring([F, E, D, C], two + [(D, C), (C, D)]), [C, D])
        self.assertEqual(least_ring([F, E, D], two + [(D, F), (F, D)]), [D, F])
        pairs = [(B, D), (D, E), (E, B), (A, F), (F, E), (E, A)]
        self.assertEqual(least_ring([A, B, C, D, E, F], pairs), [A, F, E])

    def test_of_those_the_least_as_lists_are_compared(self):
        self.assertEqual(least_ring([A, B, C], [(A, C), (C, A), (A, B), (B, A)]), [A, B])
        pairs = [(A, B), (B, F), (F, A), (A, C), (C, D), (D, A)]
        self.assertEqual(least_ring([A, B, C, D, F], pairs), [A, B, F])
        pairs = [(A, D), (D, C), (C, A), (D, B), (B, A)]
        self.assertEqual(least_ring([A, B, C, D], pairs), [A, D, B])
        pairs = [(A, B), (B, E), (E, A), (B, C), (C, A)]
        self.assertEqual(least_ring([A, B, C, D, E], pairs), [A, B, C])

    def test_several_rings_through_one_node(self):
        pairs = [(A, C), (C, A), (C, B), (B, C), (C, D), (D, E), (E, C)]
        self.assertEqual(least_ring([A, B, C, D, E], pairs), [A, C])
        self.assertEqual(least_ring([B, C, D, E], pairs[2:]), [B, C])
        self.assertEqual(least_ring([C, D, E], pairs[4:]), [C, D, E])

    def test_a_start_that_only_leads_into_a_ring(self):
        self.assertEqual(least_ring([A, B, C], [(A, B), (B, C), (C, B)]), [B, C])
        self.assertEqual(least_ring([A, B, C, D], [(A, B), (B, C), (C, B), (C, D), (D, A)]), [B, C])

    def test_numbers_of_many_figures_and_below_0(self):
        one, two, three = (-HUGE, 3), (-HUGE, 20), (HUGE, -1)
        self.assertEqual(least_ring([three, two, one], [(three, two), (two, one), (one, three)]), [one, three, two])
        self.assertEqual(least_ring([(-9, 0), (-10, 0)], [((-9, 0), (-10, 0)), ((-10, 0), (-9, 0))]), [(-10, 0), (-9, 0)])

    def test_many_nodes(self):
        nodes = [(number, 0) for number in range(400)]
        pairs = list(zip(nodes, nodes[1:] + nodes[:1]))
        self.assertEqual(least_ring(nodes, pairs), nodes)
        self.assertIsNone(least_ring(nodes, pairs[:-1]))


class AskedAgainTest(unittest.TestCase):
    NODES = [E, B, D, A, C]
    PAIRS = [(C, A), (B, D), (C, A)]
    ROUND = PAIRS + [(A, B), (D, C)]

    def test_nothing_is_changed(self):
        nodes, pairs = copy.deepcopy((self.NODES, self.ROUND))
        for function in [order_of, least_ring]:
            self.assertEqual(function(nodes, pairs), function(nodes, pairs))
            self.assertEqual(function(nodes, pairs[:2]), function(nodes, pairs[:2]))
        self.assertEqual((nodes, pairs), (self.NODES, self.ROUND))

    def test_the_lists_are_the_askers_own(self):
        for function, pairs, found in [
            (order_of, self.PAIRS, [B, C, A, D, E]), (order_of, [], [A, B, C, D, E]), (least_ring, self.ROUND, [A, B, D, C]),
        ]:
            nodes = list(self.NODES)
            answer = function(nodes, pairs)
            self.assertIs(answer.__class__, list)
            answer.clear()
            self.assertEqual(function(nodes, pairs), found)
            self.assertEqual(nodes, self.NODES)

    def test_what_is_handed_in_changes_later(self):
        nodes = [A, B]
        order, ring = order_of(nodes, []), least_ring(nodes, [(A, B), (B, A)])
        nodes.clear()
        self.assertEqual((order, ring), ([A, B], [A, B]))

    def test_arguments(self):
        for function in [order_of, least_ring]:
            self.assertEqual(list(inspect.signature(function).parameters), ["nodes", "pairs"])
        self.assertEqual(order_of(pairs=[(B, A)], nodes=[A, B]), [B, A])
        self.assertEqual(least_ring(pairs=[(B, A), (A, B)], nodes=[A, B]), [A, B])


class SecondAccountTest(unittest.TestCase):
    def test_all_orders_and_all_rings_of_few_nodes(self):
        answers = {"order": 0, "ring": 0}
        for seed in range(1500):
            chance = random.Random(seed)
            nodes = drawn_nodes(chance, chance.randint(0, 5))
            pairs = drawn_pairs(chance, nodes, chance.randint(0, 2 * len(nodes)))
            order, ring = order_of(nodes, pairs), least_ring(nodes, pairs)
            self.assertEqual(order, min(orders(nodes, pairs), default=None), seed)
            self.assertEqual(ring, min(rings(nodes, pairs), key=lambda each: (len(each), each), default=None), seed)
            self.assertEqual(order is None, ring is not None)
            answers["order" if ring is None else "ring"] += 1
        self.assertGreater(min(answers.values()), 300)

    def test_more_nodes(self):
        lengths = {}
        for seed in range(400):
            chance = random.Random(seed)
            nodes = drawn_nodes(chance, chance.randint(6, 25))
            pairs = drawn_pairs(chance, nodes, chance.randint(len(nodes) // 2, len(nodes) * 3 // 2))
            pairs = pairs if seed < 200 else drawn_far_pairs(chance, nodes)
            self.assertEqual(order_of(nodes, pairs), least_order(nodes, pairs), seed)
            ring = least_ring(nodes, pairs)
            self.assertEqual(ring, fewest_ring(nodes, pairs), seed)
            many = len(ring or [])
            lengths[many] = lengths.get(many, 0) + 1
        self.assertGreater(min(lengths.get(many, 0) for many in [0, 2, 3, 4, 5, 6]), 10)


if __name__ == "__main__":
    unittest.main()
