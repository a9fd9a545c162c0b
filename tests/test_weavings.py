"""Points 2, 81 and 82: the weavings of counts, and the first with which a wish comes true."""

import copy
import inspect
import itertools
import math
import unittest

from skewhouse.errors import NoLevel, SkewError, TooMany
from skewhouse.house import House
from skewhouse.weavings import first_weaving, how_many, weavings
from tests.helper import NO_WORDS, WORDS, drawn, programs_of

# Within the bounds no counts have just 2,000 weavings: these come nearest to it, below and above.
NEAR_BELOW = [[1, 3, 8], [3, 8, 1], [2, 2, 7], [7, 0, 2, 0, 2]]
NEAR_ABOVE = [[5, 9], [9, 0, 5]]

# Both read a row and put it, one more.
ONE_MORE = "kept: read a 5; let a a + 1; put 5 a"


def all_weavings(counts):
    """A second account of point 81: all orders of all turns, each once, rising."""
    turns = [number for number, count in enumerate(counts, start=1) for turn in range(count)]
    return [list(order) for order in sorted(set(itertools.permutations(turns)))]


def multinomial(counts):
    many = math.factorial(sum(counts))
    for count in counts:
        many //= math.factorial(count)
    return many


def small_counts():
    """All lists of at most four counts with at most six turns."""
    for many in range(5):
        for counts in itertools.product(range(7), repeat=many):
            if sum(counts) <= 6:
                yield list(counts)


class HowManyTest(unittest.TestCase):
    def test_none_noughts_and_one(self):
        for counts in [[], [0], [0] * 8, [1], [41], [0, 41, 0], [0, 0, 7]]:
            self.assertEqual(how_many(counts), 1, counts)

    def test_examples(self):
        for counts, many in [([1, 1], 2), ([2, 1], 3), ([2, 2], 6), ([1, 0, 1, 1], 6), ([4, 4], 70), ([1] * 8, 40320)]:
            self.assertEqual(how_many(counts), many, counts)

    def test_against_all_of_them(self):
        for counts in small_counts():
            self.assertEqual(how_many(counts), len(all_weavings(counts)), counts)

    def test_eight_counts_of_forty_one(self):
        self.assertEqual(how_many([41] * 8), multinomial([41] * 8))
        self.assertEqual(how_many([41] * 8) % 10 ** 12, multinomial([41] * 8) % 10 ** 12)
        self.assertGreater(how_many([41] * 8), 10 ** 280)

    def test_big_counts(self):
        for counts in [[41, 41], [41, 40, 0, 39], [1, 41, 2, 40, 3, 39, 4, 38], [0, 41, 0, 1], [13, 13, 13]]:
            self.assertEqual(how_many(counts), multinomial(counts), counts)

    def test_a_whole_number(self):
        for counts in [[], [0], [41] * 8]:
            self.assertIs(how_many(counts).__class__, int)


class WeavingsTest(unittest.TestCase):
    def test_no_counts_and_noughts(self):
        for counts in [[], [0], [0, 0], [0] * 8]:
            self.assertEqual(weavings(counts), [[]], counts)

    def test_one_count(self):
        self.assertEqual(weavings([1]), [[1]])
        self.assertEqual(weavings([41]), [[1] * 41])
        self.assertEqual(weavings([0, 3]), [[2, 2, 2]])
        self.assertEqual(weavings([0] * 7 + [2]), [[8, 8]])

    def test_examples(self):
        self.assertEqual(weavings([2, 1]), [[1, 1, 2], [1, 2, 1], [2, 1, 1]])
        self.assertEqual(weavings([1, 0, 1]), [[1, 3], [3, 1]])
        wanted = [[1, 2, 3], [1, 3, 2], [2, 1, 3], [2, 3, 1], [3, 1, 2], [3, 2, 1]]
        self.assertEqual(weavings([1, 1, 1]), wanted)

    def test_against_all_of_them(self):
        for counts in small_counts():
            self.assertEqual(weavings(counts), all_weavings(counts), counts)

    def told(self, counts):
        found = weavings(counts)
        self.assertEqual(len(found), how_many(counts))
        self.assertTrue(all(one < other for one, other in zip(found, found[1:])), counts)
        for weaving in found:
            self.assertEqual([weaving.count(number) for number in range(1, len(counts) + 1)], counts)
            self.assertEqual(len(weaving), sum(counts))

    def test_all_each_once_rising(self):
        for counts in [[4, 4], [1] * 6, [41, 1, 0, 1], [1, 41, 1], [2, 41], [0, 6, 6], [3, 3, 3], [2, 2, 2, 1]]:
            self.told(counts)

    def test_near_the_bound(self):
        for counts in NEAR_BELOW:
            self.assertEqual(how_many(counts), 1980)
            self.told(counts)
        for counts in NEAR_ABOVE:
            self.assertEqual(how_many(counts), 2002)
            self.assertRaises(TooMany, weavings, counts)

    def test_just_two_thousand_and_one_more(self):
        # Somewhat beyond the counts that are handed in: no others come just to the bound.
        self.assertEqual((how_many([1, 1999]), how_many([2000, 1])), (2000, 2001))
        found = weavings([1, 1999])
        self.assertEqual((len(found), found[0][:2], found[-1][-2:]), (2000, [1, 2], [2, 1]))
        self.assertTrue(all(one < other for one, other in zip(found, found[1:])))
        self.assertRaises(TooMany, weavings, [2000, 1])
        self.assertRaises(TooMany, weavings, [1, 2000])

    def test_far_too_many(self):
        for counts in [[41] * 8, [41, 41], [1] * 7, [1] * 8, [10, 10], [0, 3, 21]]:
            self.assertRaises(TooMany, weavings, counts)

    def test_the_lists_are_the_askers_own(self):
        counts = [2, 0, 1]
        found = weavings(counts)
        for weaving in found:
            weaving.append(9)
        found.clear()
        self.assertEqual(weavings(counts), [[1, 1, 3], [1, 3, 1], [3, 1, 1]])
        self.assertEqual(counts, [2, 0, 1])
        none = weavings([])
        none[0].append(1)
        none.append([])
        self.assertEqual(weavings([]), [[]])
        counts.clear()
        self.assertEqual(weavings([2, 0, 1]), [[1, 1, 3], [1, 3, 1], [3, 1, 1]])

    def test_no_two_of_the_lists_are_one(self):
        found = weavings([2, 2])
        found[0].append(7)
        self.assertEqual(found[1:], weavings([2, 2])[1:])

    def test_arguments(self):
        self.assertEqual(list(inspect.signature(how_many).parameters), ["counts"])
        self.assertEqual(list(inspect.signature(weavings).parameters), ["counts"])
        self.assertEqual(list(inspect.signature(first_weaving).parameters), ["rows", "programs", "wish"])
        self.assertEqual((how_many(counts=[1]), weavings(counts=[1])), (1, [[1]]))
        self.assertEqual(first_weaving(rows={}, programs=[], wish=lambda house: True), [])


class Asked:
    """A wish that keeps the log of each house that it is asked of, and is true at the one of a place."""

    def __init__(self, place=None):
        self.place, self.logs = place, []

    def __call__(self, house):
        self.logs.append(house.log())
        return self.place is not None and len(self.logs) == self.place + 1


def logs_of(rows, programs, numbers):
    """The logs of houses woven by these weavings and then rested."""
    found = []
    for weaving in numbers:
        house = House(rows, programs)
        house.weave(weaving)
        house.rest()
        found.append(house.log())
    return found


def troubled(log):
    return any(row[2] == "wait" or row[2:4] == ("broken", ("own",)) for row in log)


class FirstWeavingTest(unittest.TestCase):
    rows = {5: 50}
    programs = programs_of("kept: read a 5; put 5 1", "watch: put 6 2")

    def test_never_true(self):
        wish = Asked()
        self.assertIsNone(first_weaving(self.rows, self.programs, wish))
        self.assertEqual(wish.logs, logs_of(self.rows, self.programs, weavings([3, 2])))
        self.assertEqual(len(wish.logs), 10)

    def test_true_at_each_place(self):
        for place, weaving in enumerate(weavings([3, 2])):
            wish = Asked(place)
            self.assertEqual(first_weaving(self.rows, self.programs, wish), weaving)
            self.assertEqual(wish.logs, logs_of(self.rows, self.programs, weavings([3, 2])[:place + 1]))

    def test_without_programs(self):
        wish = Asked(0)
        self.assertEqual(first_weaving({5: 50}, [], wish), [])
        self.assertEqual(wish.logs, [[]])
        wish = Asked()
        self.assertIsNone(first_weaving({}, [], wish))
        self.assertEqual(wish.logs, [[]])

    def test_without_deeds(self):
        wish = Asked()
        self.assertIsNone(first_weaving({}, programs_of("kept:", "hold:"), wish))
        kept = [[(1, 1, "kept", ()), (2, 2, "kept", ())], [(1, 2, "kept", ()), (2, 1, "kept", ())]]
        self.assertEqual(wish.logs, kept)

    def test_all_have_ended(self):
        # The second one must wait, so its turns of the weaving are not enough.
        programs = programs_of("hold: put 5 1; put 6 1", "hold: put 5 2")
        states = []
        first_weaving({}, programs, lambda house: states.append([house.state(1), house.state(2)]))
        self.assertEqual(states, [["kept", "kept"]] * 10)

    def test_a_house_of_the_rows_and_programs(self):
        seen = []
        programs = programs_of("kept: read a 5", "make: read a 7")
        first_weaving({7: 70, 5: -50}, programs, lambda house: seen.append((house.rows(), house.level_word(2))))
        self.assertEqual(seen, [([(5, -50), (7, 70)], "make")] * 6)

    def test_a_new_house_for_each(self):
        houses = []
        first_weaving(self.rows, self.programs, lambda house: houses.append(house))
        self.assertEqual(len({id(house) for house in houses}), 10)
        self.assertEqual([house.log() for house in houses], logs_of(self.rows, self.programs, weavings([3, 2])))

    def test_a_wish_that_weaves_further(self):
        logs = []

        def wish(house):
            logs.append(house.log())
            house.weave([1, 2, 1])
            house.rest()
            house.log().clear()
            house.rows().clear()
            return False

        self.assertIsNone(first_weaving(self.rows, self.programs, wish))
        self.assertEqual(logs, logs_of(self.rows, self.programs, weavings([3, 2])))

    def test_a_wish_that_changes_what_was_handed_in(self):
        rows, programs, logs = {5: 50}, programs_of("kept: read a 5; put 5 1", "watch: put 6 2"), []
        wanted = logs_of(rows, programs, weavings([3, 2]))

        def wish(house):
            logs.append(house.log())
            rows[5] = 51 + len(logs)
            programs[1][1].clear()
            programs.append(("nobody", []))
            return False

        self.assertIsNone(first_weaving(rows, programs, wish))
        self.assertEqual(logs, wanted)

    def test_what_is_handed_in_stays(self):
        rows, programs = dict(self.rows), copy.deepcopy(self.programs)
        for place in [0, 9, None]:
            first_weaving(rows, programs, Asked(place))
            self.assertEqual((rows, programs), (self.rows, self.programs))

    def test_the_weaving_is_the_askers_own(self):
        first_weaving(self.rows, self.programs, Asked(3)).clear()
        self.assertEqual(first_weaving(self.rows, self.programs, Asked(3)), weavings([3, 2])[3])

    def test_asked_again(self):
        for place in [None, 0, 4]:
            one, other = Asked(place), Asked(place)
            answer = first_weaving(self.rows, self.programs, one)
            self.assertEqual(answer, first_weaving(self.rows, self.programs, other))
            self.assertEqual(one.logs, other.logs)

    def test_a_wish_of_weight(self):
        programs = programs_of(ONE_MORE, ONE_MORE)
        found = first_weaving({5: 50}, programs, lambda house: house.rows() == [(5, 51)])
        # Both must have read ahead of the other one's keep; the rising weavings come to it so at first.
        self.assertEqual(found, [1, 1, 1, 2, 1, 2, 2, 2])
        by_all = [weaving for weaving, log in zip(weavings([4, 4]), logs_of({5: 50}, programs, weavings([4, 4])))
                  if log[-1][3] == ((5, 51),)]
        self.assertEqual(found, by_all[0])

    def test_drawn_by_a_seed(self):
        places = []
        for seed in range(400):
            rows, programs, weaving = drawn(seed, WORDS, 3, 4)
            counts = [len(deeds) + 1 for word, deeds in programs]
            if 2 <= sum(counts) <= 8:
                logs = logs_of(rows, programs, all_weavings(counts))
                places.append(next((place for place, log in enumerate(logs) if troubled(log)), None))
                wanted = None if places[-1] is None else all_weavings(counts)[places[-1]]
                self.assertEqual(first_weaving(rows, programs, lambda house: troubled(house.log())), wanted, seed)
        self.assertGreater(min(places.count(None), places.count(0)), 1)
        self.assertGreater(len(set(places)), 8)


class RefusedTest(unittest.TestCase):
    def refuses(self, error, programs):
        wish = Asked(0)
        with self.assertRaises(SkewError) as caught:
            first_weaving({5: 50}, programs, wish)
        self.assertIs(caught.exception.__class__, error)
        self.assertEqual(wish.logs, [])

    def test_a_word_that_is_none_of_a_level(self):
        for word in NO_WORDS:
            self.refuses(NoLevel, [(word, [])])
            self.refuses(NoLevel, [("kept", []), (word, [("read", "a", 5)])])

    def test_too_many(self):
        deed = ("read", "a", 5)
        self.refuses(TooMany, [("kept", [deed] * 4), ("hold", [deed] * 8)])
        self.refuses(TooMany, [("kept", [deed] * 40)] * 8)
        self.refuses(TooMany, [("loose", [])] * 7)

    def test_just_few_enough(self):
        deed = ("read", "a", 5)
        # Counts of 1, 3 and 8: 1,980 weavings.
        self.assertEqual(first_weaving({}, [("kept", [deed] * many) for many in [0, 2, 7]], Asked(1979)),
                         [3] * 8 + [2] * 3 + [1])

    def test_no_level_ahead_of_too_many(self):
        deed = ("read", "a", 5)
        self.refuses(NoLevel, [("kept", [deed] * 40)] * 7 + [("keep", [])])
        self.refuses(NoLevel, [("Hold", [deed] * 40), ("kept", [deed] * 40)])

    def test_nothing_is_changed(self):
        programs = [("kept", [("read", "a", 5)] * 40)] * 8
        before = copy.deepcopy(programs)
        self.refuses(TooMany, programs)
        self.assertEqual(programs, before)
        self.assertRaises(TooMany, weavings, [41, 41])
        self.assertEqual(weavings([1, 1]), [[1, 2], [2, 1]])


if __name__ == "__main__":
    unittest.main()
