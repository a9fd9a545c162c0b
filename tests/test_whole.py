"""Points 4, 5, 6 and 66, and with them 52 to 59: houses drawn by fixed seeds, held against plain second accounts."""

import unittest

from skewhouse.deeds import following, let_of, told, under
from skewhouse.histories import history, read_history, show_history
from skewhouse.house import House
from skewhouse.plays import allowed
from skewhouse.words import worth
from tests.helper import WORDS, Account, Told, drawn, drawn_house, run_alone

SEEDS = range(1500)
SERIAL = ["watch", "hold"]


def told_of(rows, programs, house):
    return Told(rows, [program[0] for program in programs], house.log())


def meets(low, high, other_low, other_high):
    return max(low, other_low) <= min(high, other_high)


class Replay:
    """One dealing, walked by the rows that were told of it ahead of some place of the log."""

    def __init__(self, test, program, rows):
        self.word, self.deeds = program
        self.names, self.place, self.holds = {}, 0, []
        for row in rows:
            if row[2] not in ("wait", "idle", "kept", "broken"):
                self.walk(test, row)

    def next_deed(self):
        return self.deeds[self.place]

    def wants(self):
        """The hold that the next deed asks for."""
        deed = self.next_deed()
        if deed[0] in ("put", "take"):
            key = worth(deed[1], self.names)
            return (key, key, True)
        return (worth(deed[2], self.names), worth(deed[-1], self.names), False)

    def walk(self, test, row):
        deed = self.next_deed()
        if row[2] == "look":
            test.assertEqual(self.wants()[:2], row[3:5])
            self.names[deed[1]] = told(deed, list(row[5]))
            if self.word == "hold":
                self.holds.append((row[3], row[4], False))
        elif row[2] == "put":
            value = None if deed[0] == "take" else worth(deed[2], self.names)
            test.assertEqual((worth(deed[1], self.names), value), row[3:])
            self.holds.append((row[3], row[3], True))
        elif row[2] == "let":
            self.names[deed[1]] = let_of(deed, self.names)
            test.assertEqual((deed[1], self.names[deed[1]]), row[3:])
        self.place = following(deed, self.place, self.names, len(self.deeds))
        if row[2] == "go":
            test.assertEqual(self.place, row[3])


class SecondAccountTest(unittest.TestCase):
    def test_the_rows_turn_by_turn(self):
        kinds = {}
        for seed in SEEDS:
            rows, programs, weaving = drawn(seed)
            house = House(rows, programs)
            rows_told = house.weave(weaving)
            self.assertEqual(rows_told, house.log())
            rows_told += house.rest()
            self.assertEqual(rows_told, house.log())
            self.assertEqual(Account(rows, programs).play(weaving), rows_told, seed)
            for row in rows_told:
                why = row[3][0] + str(len(row[3][-1]) if row[3][0] == "ring" else "") if row[2] == "broken" else ""
                kinds[row[2] + why] = kinds.get(row[2] + why, 0) + 1
        # The seeds are worth something only where all that can be told comes up.
        for kind in ["idle", "look", "put", "let", "go", "wait", "kept", "brokenown", "brokenring2", "brokenfirst"]:
            self.assertGreater(kinds[kind], 30, kind)
        self.assertGreater(kinds["brokenedges"], 10)
        self.assertGreater(kinds["brokenring3"], 2)

    def test_more_dealings_with_longer_programs(self):
        for seed in range(150):
            rows, programs, weaving = drawn(seed, WORDS, 8, 20)
            house = House(rows, programs)
            house.weave(weaving)
            house.rest()
            self.assertEqual(Account(rows, programs).play(weaving), house.log(), seed)

    def test_what_is_told_of_the_rows(self):
        for seed in SEEDS:
            rows, programs, weaving = drawn(seed)
            house = House(rows, programs)
            house.weave(weaving)
            for again in range(2):
                wanted = told_of(rows, programs, house)
                self.assertEqual((house.rows(), house.made()), (wanted.rows(), wanted.made()), seed)
                self.assertEqual(house.order(), wanted.order(), seed)
                for number in wanted.numbers:
                    self.assertEqual(house.state(number), wanted.state[number], seed)
                    self.assertEqual(house.reason(number), wanted.why.get(number), seed)
                    self.assertEqual(house.looked(number), wanted.looked(number), seed)
                    self.assertEqual(house.level_word(number), programs[number - 1][0])
                house.rest()

    def test_step_by_step_is_the_same(self):
        for seed in range(100):
            rows, programs, weaving = drawn(seed)
            house, other = House(rows, programs), House(rows, programs)
            self.assertEqual([row for number in weaving for row in house.step(number)], other.weave(weaving))
            self.assertEqual(house.rest(), other.rest())


class RestTest(unittest.TestCase):
    def test_all_end(self):
        for seed in SEEDS:
            rows, programs, weaving = drawn(seed, WORDS, 8, 12)
            house = House(rows, programs)
            house.weave(weaving)
            house.rest()
            states = [house.state(number) for number in range(1, len(programs) + 1)]
            self.assertEqual([state for state in states if state not in ("kept", "broken")], [], seed)
            self.assertEqual(house.rest(), [])

    def test_each_turn_tells_one_row_of_its_own_dealing_at_last(self):
        for seed in SEEDS:
            rows, programs, weaving = drawn(seed)
            house = House(rows, programs)
            for stamp, number in enumerate(weaving, start=1):
                told_rows = house.step(number)
                self.assertEqual({row[0] for row in told_rows}, {stamp})
                self.assertEqual(told_rows[-1][1], number)
                self.assertEqual([row[2] for row in told_rows[:-1] if row[2] != "broken" or row[1] == number], [])


class WalkedTest(unittest.TestCase):
    """Point 4: the order of the house, walked."""

    def spot_of(self, word, place):
        return {"kept": place, "make": 0, "watch": 0, "hold": 0}.get(word)

    def look(self, wanted, house, number, place, stand):
        """A look walked: on what stands by now it sees the same, and of each key finds the same make."""
        row = wanted.looks(number)[place][1]
        values = {key: make[0] for key, make in stand.items()}
        own = [put for put in wanted.log if put[1] == number and put[2] == "put" and put[0] < row[0]]
        values.update({put[3]: put[4] for put in own})
        rows = [(key, values[key]) for key in sorted(values) if row[3] <= key <= row[4] and values[key] is not None]
        self.assertEqual(tuple(rows), row[5])
        for key, source in house.looked(number)[place]:
            self.assertEqual(stand.get(key, (None, 0))[1], source)

    def walk(self, rows, wanted, house):
        stand = {key: (value, 0) for key, value in rows.items()}
        keeps = {row[1]: row[3] for row in wanted.keeps}
        makers = {}
        left = {number: len(wanted.stamps(number)) for number in wanted.kept()}
        for number, spot in house.order():
            word = wanted.words[number - 1]
            for place in range(len(wanted.looks(number))):
                if self.spot_of(word, place) == spot:
                    self.look(wanted, house, number, place, stand)
            left[number] -= 1
            if left[number] == 0:
                stand.update({key: (value, number) for key, value in keeps[number]})
                for key, value in keeps[number]:
                    makers.setdefault(key, []).append(number)
        self.assertEqual(set(left.values()) - {0}, set())
        self.assertEqual(sorted(makers.items()), house.made())
        at_last = [(key, stand[key][0]) for key in sorted(stand) if stand[key][0] is not None]
        self.assertEqual(at_last, house.rows())

    def test_dealings_of_all_levels(self):
        for seed in SEEDS:
            rows, programs, weaving = drawn(seed)
            house = House(rows, programs)
            house.weave(weaving)
            self.walk(rows, told_of(rows, programs, house), house)
            house.rest()
            self.walk(rows, told_of(rows, programs, house), house)

    def test_many_at_watch(self):
        for seed in SEEDS:
            words = ["watch", "watch", "watch", "hold", "kept", "make"]
            rows, programs, weaving = drawn(seed, words, 6, 5)
            house = House(rows, programs)
            house.weave(weaving)
            house.rest()
            self.walk(rows, told_of(rows, programs, house), house)


class OneAfterTheOtherTest(unittest.TestCase):
    """Point 5: where all are at watch or hold, the programs run one after the other."""

    def test_they_read_the_same_and_leave_the_same(self):
        other_orders = 0
        for seed in SEEDS:
            for words in [SERIAL, ["watch"], ["hold"]]:
                rows, programs, weaving = drawn(seed, words, 5, 6)
                house = House(rows, programs)
                house.weave(weaving)
                house.rest()
                wanted = told_of(rows, programs, house)
                order = [number for number, place in house.order()]
                self.assertEqual(sorted(order), sorted(wanted.kept()))
                self.assertEqual([place for number, place in house.order() if place != 0], [])
                other_orders += order != wanted.kept()
                stand = dict(rows)
                for number in order:
                    looks, stand = run_alone(stand, programs[number - 1][1])
                    self.assertEqual(looks, [row[5] for place, row in wanted.looks(number)], seed)
                self.assertEqual(sorted(stand.items()), house.rows(), seed)
        # In some of them an early one stands ahead of those that were kept ahead of it.
        self.assertGreater(other_orders, 20)


class ReasonsTest(unittest.TestCase):
    """Point 6: nobody is broken off without a reason that can be walked."""

    def replay(self, programs, number, ahead):
        return Replay(self, programs[number - 1], [row for row in ahead if row[1] == number])

    def walk_own(self, programs, wanted, number, why, ahead):
        replay = self.replay(programs, number, ahead)
        self.assertEqual(replay.next_deed()[0], "stop")
        self.assertTrue(under(replay.next_deed(), replay.names))

    def walk_ring(self, programs, wanted, number, why, ahead):
        chain = why[1]
        self.assertEqual(max(chain, key=wanted.begin.get), number)
        self.assertEqual(len(set(chain)), len(chain))
        for one, other in zip(chain, chain[1:] + chain[:1]):
            low, high, own = self.replay(programs, one, ahead).wants()
            holds = self.replay(programs, other, ahead).holds
            self.assertTrue(any(meets(low, high, hold[0], hold[1]) and (own or hold[2]) for hold in holds))
            self.assertTrue(own or programs[one - 1][0] == "hold")
            self.assertFalse(any(row[1] == one and row[2] in ("kept", "broken") for row in ahead))

    def walk_first(self, programs, wanted, number, why, ahead):
        self.assertIn(programs[number - 1][0], ("make", "watch"))
        self.assertEqual(self.replay(programs, number, ahead).wants(), (why[1], why[1], True))
        makers = [row for row in ahead if row[2] == "kept" and why[1] in dict(row[3])]
        self.assertEqual(makers[-1][1], why[2])
        self.assertGreater(makers[-1][0], wanted.begin[number])

    def saw_older(self, wanted, one, key, other):
        """Whether the one looked at the key, as it was ahead of the other one's end."""
        for stand, row in wanted.looks(one):
            if row[3] <= key <= row[4] and stand < wanted.end[other] and not wanted.wrote(one, key, 0, row[0]):
                return True
        return False

    def walk_edges(self, programs, wanted, number, why, ahead):
        one, key, mid, other_key, other = why[1:]
        self.assertEqual(programs[mid - 1][0], "watch")
        self.assertIn(number, (one, mid))
        self.assertNotIn(mid, (one, other))
        kept = {row[1]: dict(row[3]) for row in ahead if row[2] == "kept"}
        kept[number] = {row[3]: row[4] for row in ahead if row[1:3] == (number, "put")}
        self.assertIn(key, kept[mid])
        self.assertIn(other_key, kept[other])
        self.assertTrue(self.saw_older(wanted, one, key, mid))
        self.assertTrue(self.saw_older(wanted, mid, other_key, other))
        self.assertGreater(wanted.end[one], wanted.begin[mid])
        self.assertLess(wanted.end[other], wanted.end[mid])

    def test_each_reason_walked(self):
        walked = {}
        for seed in range(3000):
            rows, programs, weaving = drawn(seed)
            house = House(rows, programs)
            house.weave(weaving)
            house.rest()
            wanted = told_of(rows, programs, house)
            walks = {"own": self.walk_own, "ring": self.walk_ring, "first": self.walk_first, "edges": self.walk_edges}
            for at, row in enumerate(wanted.log):
                if row[2] == "broken":
                    self.assertEqual(house.reason(row[1]), row[3])
                    walks[row[3][0]](programs, wanted, row[1], row[3], wanted.log[:at])
                    walked[row[3][0]] = walked.get(row[3][0], 0) + 1
        self.assertGreater(min(walked[kind] for kind in walks), 20)


class HistoriesOfHousesTest(unittest.TestCase):
    """Points 62 to 64 and 66, for houses in the midst of their turns and at rest."""

    def test_the_order_of_a_house_is_allowed_for_its_history(self):
        for seed in SEEDS:
            rows, programs, weaving = drawn(seed)
            house = House(rows, programs)
            house.weave(weaving)
            for again in range(2):
                past = history(house)
                self.assertIs(allowed(past, house.order()), True, seed)
                self.assertEqual(read_history(show_history(past)), past, seed)
                house.rest()

    def test_houses_of_many_at_watch(self):
        for seed in SEEDS:
            house = drawn_house(seed, ["watch", "watch", "make", "kept", "hold"], 8, 6)
            self.assertIs(allowed(history(house), house.order()), True, seed)

    def test_a_house_of_one_level_alone(self):
        for word in WORDS:
            for seed in range(300):
                house = drawn_house(seed, [word], 5, 6)
                self.assertIs(allowed(history(house), house.order()), True, seed)
                self.assertIs(allowed(history(house), house.order(), word), True, seed)


if __name__ == "__main__":
    unittest.main()
