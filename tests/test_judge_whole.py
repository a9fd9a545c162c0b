"""Points 4, 7, 66, 78 and 79: what the judge promises over the whole, on histories and houses drawn by fixed seeds."""

import copy
import itertools
import random
import unittest

from skewhouse.histories import history, read_history, show_history
from skewhouse.house import House
from skewhouse.judge import judge
from skewhouse.plays import allowed
from tests.helper import WORDS, drawn, drawn_history, drawn_house, is_allowed, is_edge, second_judge, spots_of

LOWER = {"loose": "loose", "kept": "loose", "make": "kept", "watch": "make", "hold": "make"}


def small_histories(seeds, most=6):
    """Histories of few spots, each with a word or None; every other one without a read of what was never kept."""
    for seed in seeds:
        past = drawn_history(random.Random(seed), (-1,) if seed % 2 else ())
        for word in WORDS + [None]:
            if len(spots_of(past, word)) <= most:
                yield past, word


def allowed_orders(past, word=None):
    """All that are allowed, in the order in which lists are compared."""
    orders = [list(order) for order in itertools.permutations(spots_of(past, word))]
    return [order for order in orders if is_allowed(past, order, word)]


def with_words(past, change):
    return ([(number, change(word), looks) for number, word, looks in past[0]], past[1])


def alone(past, edge):
    """Of the history only what the edge is about: the makers of its key, and that key's pairs of the one who looks."""
    spot, other, why, key = edge
    looker = {"saw": other[0], "unseen": spot[0]}.get(why)
    deals = []
    for number, word, looks in past[0]:
        pairs = [[pair for pair in look if number == looker and pair[0] == key] for look in looks]
        deals.append((number, word, pairs))
    return (deals, [made for made in past[1] if made[0] == key])


def with_another_source(chance, past):
    """One source put otherwise, or None where there is no look with a pair."""
    places = [(at, place, column) for at, deal in enumerate(past[0]) for place, look in enumerate(deal[2])
              for column in range(len(look))]
    if not places:
        return None
    at, place, column = chance.choice(places)
    changed = copy.deepcopy(past)
    number, word, looks = changed[0][at]
    key, source = looks[place][column]
    others = [maker for maker in dict(past[1]).get(key, []) if maker != number]
    looks[place][column] = (key, chance.choice([each for each in [0, -1] + others if each != source]))
    return changed


def with_another_order(chance, past):
    """The makers of one key in another order, or None where no key has two."""
    places = [at for at, made in enumerate(past[1]) if len(made[1]) > 1]
    if not places:
        return None
    changed = copy.deepcopy(past)
    makers = changed[1][chance.choice(places)][1]
    makers[:] = chance.choice([list(each) for each in itertools.permutations(makers) if list(each) != makers])
    return changed


class SmallHistoriesTest(unittest.TestCase):
    def test_order_just_where_one_is_allowed(self):
        answers = {"unkept": 0, "order": 0, "ring": 0}
        for past, word in small_histories(range(500)):
            answer = judge(past, word)
            found = allowed_orders(past, word)
            self.assertEqual(answer[0] == "order", found != [], (past, word))
            if answer[0] == "order":
                # Always the least next of those that may come next: the least of all that are allowed.
                self.assertEqual(answer[1], found[0], (past, word))
                self.assertIs(allowed(past, answer[1], word), True)
            answers[answer[0]] += 1
        self.assertGreater(min(answers.values()), 200)

    def test_all_orders_asked_by_the_program_itself(self):
        for past, word in small_histories(range(500, 560)):
            orders = [list(order) for order in itertools.permutations(spots_of(past, word))]
            found = [order for order in orders if allowed(past, order, word)]
            answer = judge(past, word)
            self.assertEqual(answer[1] if answer[0] == "order" else None, min(found, default=None))

    def test_each_answer_by_a_second_account(self):
        lengths = {}
        for past, word in small_histories(range(900), 12):
            answer = judge(past, word)
            self.assertEqual(answer, second_judge(past, word), (past, word))
            if answer[0] == "ring":
                lengths[len(answer[1])] = lengths.get(len(answer[1]), 0) + 1
        self.assertGreater(min(lengths.get(many, 0) for many in [2, 3]), 50)

    def test_each_edge_of_a_ring_is_one_of_the_history(self):
        for past, word in small_histories(range(900)):
            answer = judge(past, word)
            if answer[0] == "ring":
                chain = [edge[0] for edge in answer[1]]
                self.assertEqual([edge[1] for edge in answer[1]], chain[1:] + chain[:1])
                self.assertEqual((chain[0], len(set(chain))), (min(chain), len(chain)))
                for edge in answer[1]:
                    self.assertTrue(is_edge(past, edge, word), (past, word, edge))

    def test_each_edge_of_a_ring_must_hold_in_what_is_allowed(self):
        kinds = {"own": 0, "saw": 0, "unseen": 0, "over": 0}
        for past, word in small_histories(range(600), 5):
            answer = judge(past, word)
            for edge in answer[1] if answer[0] == "ring" else []:
                for order in allowed_orders(alone(past, edge), word):
                    self.assertLess(order.index(edge[0]), order.index(edge[1]), (past, word, edge))
                    kinds[edge[2]] += 1
        self.assertGreater(min(kinds.values()), 50)


class LevelsTest(unittest.TestCase):
    def test_what_is_yes_stays_yes_at_lower_levels(self):
        lowered = 0
        for past, word in small_histories(range(600), 12):
            past = with_words(past, lambda own: word or own)
            if judge(past)[0] == "order":
                for number, own, looks in past[0]:
                    deals = [(each[0], LOWER[own], looks) if each[0] == number else each for each in past[0]]
                    answer = judge((deals, past[1]))
                    self.assertEqual(answer[0], "order", (past, number))
                    self.assertTrue(is_allowed((deals, past[1]), answer[1]))
                    lowered += own != "loose"
        self.assertGreater(lowered, 500)

    def test_some_lower_at_once(self):
        for seed in range(300):
            chance = random.Random(seed)
            past = history(drawn_house(seed))
            for turn in range(4):
                past = with_words(past, lambda own: chance.choice([own, LOWER[own]]))
                self.assertEqual(judge(past)[0], "order", seed)
            self.assertEqual(judge(past, "loose")[0], "order", seed)

    def test_watch_and_hold_have_the_same_answers(self):
        rings = 0
        for seed in range(600):
            chance = random.Random(seed)
            past = drawn_history(chance, (-1,) if seed % 3 == 0 else ())
            self.assertEqual(judge(past, "watch"), judge(past, "hold"), seed)
            swapped = with_words(past, lambda own: {"watch": "hold", "hold": "watch"}.get(own, own))
            self.assertEqual(judge(past), judge(swapped), seed)
            mixed = with_words(past, lambda own: chance.choice(["watch", "hold"]))
            self.assertEqual(judge(mixed), judge(past, "hold"), seed)
            rings += judge(mixed)[0] == "ring"
        self.assertGreater(rings, 100)

    def test_a_word_is_as_if_all_were_at_it(self):
        for past, word in small_histories(range(200), 20):
            if word is not None:
                self.assertEqual(judge(past, word), judge(with_words(past, lambda own: word)))


class HousesTest(unittest.TestCase):
    def yes(self, house, seed):
        past = history(house)
        answer = judge(past)
        self.assertEqual(answer[0], "order", seed)
        self.assertTrue(is_allowed(past, answer[1]), seed)
        self.assertTrue(allowed(past, answer[1]), seed)

    def asked_all_along(self, seed, words, dealings, most):
        rows, programs, weaving = drawn(seed, words, dealings, most)
        house = House(rows, programs)
        half = len(weaving) // 2
        house.weave(weaving[:half])
        self.yes(house, seed)
        house.weave(weaving[half:])
        self.yes(house, seed)
        house.rest()
        self.yes(house, seed)

    def test_dealings_of_all_levels(self):
        for seed in range(500):
            self.asked_all_along(seed, WORDS, 5, 7)

    def test_dealings_of_one_level(self):
        for word in WORDS:
            for seed in range(100):
                self.asked_all_along(seed, [word], 5, 7)

    def test_many_dealings_of_many_deeds(self):
        for seed in range(60):
            self.asked_all_along(seed, WORDS, 8, 20)

    def test_loose_ones_do_not_spoil_the_others(self):
        for seed in range(200):
            self.asked_all_along(seed, ["loose", "watch"], 5, 7)
            self.asked_all_along(seed, ["loose", "hold", "make"], 5, 7)

    def test_at_higher_levels_some_are_refused(self):
        kinds = {}
        for seed in range(400):
            past = history(drawn_house(seed, ["loose", "kept"], 5, 9))
            for word in WORDS:
                kind = judge(past, word)[0]
                kinds[word, kind] = kinds.get((word, kind), 0) + 1
        self.assertEqual(kinds["loose", "order"], 400)
        for word in ["make", "watch", "hold"]:
            self.assertGreater(min(kinds[word, kind] for kind in ["unkept", "order", "ring"]), 30, kinds)
        self.assertGreater(kinds["kept", "unkept"], 30)


class TextsTest(unittest.TestCase):
    def test_shown_and_read_and_judged(self):
        for seed in range(300):
            past = history(drawn_house(seed))
            again = read_history(show_history(past))
            for word in WORDS + [None]:
                self.assertEqual(judge(again, word), judge(past, word), (seed, word))
            self.assertEqual(judge(again)[0], "order")

    def test_with_one_source_or_one_order_put_otherwise(self):
        answers = {"unkept": 0, "order": 0, "ring": 0}
        for seed in range(500):
            chance = random.Random(seed)
            past = history(drawn_house(seed, dealings=4, most=5))
            for change in [with_another_source, with_another_order]:
                changed = change(chance, past)
                if changed is not None and len(spots_of(changed)) <= 12:
                    again = read_history(show_history(changed))
                    self.assertEqual(again, changed)
                    answer = judge(again)
                    self.assertEqual(answer, second_judge(changed), (seed, changed))
                    answers[answer[0]] += 1
                    if len(spots_of(changed)) <= 5:
                        self.assertEqual(answer[0] == "order", allowed_orders(changed) != [], (seed, changed))
        self.assertGreater(min(answers.values()), 30)

    def test_the_biggest_histories(self):
        numbers = list(range(1, 9))
        makes = [(key, list(numbers)) for key in range(40)]
        for word in WORDS:
            # Each finds the make of the one ahead of it: so they stand one behind the other.
            deals = [(number, word, [[(key, number - 1) for key in range(40)]] * 40) for number in numbers]
            order = ("order", spots_of((deals, makes)))
            self.assertEqual(judge((deals, makes)), order, word)
            # Once one of them finds the make of the one behind it in the last of its looks, it is a ring.
            looks = deals[3][2][:39] + [[(key, 3 + 2 * (key == 39)) for key in range(40)]]
            deals[3] = (4, word, looks)
            self.assertEqual(judge((deals, makes))[0], "order" if word == "loose" else "ring", word)


if __name__ == "__main__":
    unittest.main()
