"""Points 2, 3, 51, 52, 57 and 58: a house, its dealings one by one, its turns and the rows that it tells."""

import copy
import inspect
import unittest

from skewhouse.errors import NoDealing, NoLevel
from skewhouse.histories import history, show_history
from skewhouse.house import House
from tests.helper import WORDS, house_of, programs_of, woven

BIG = 10 ** 30 - 1
HUGE = 10 ** 5000

METHODS = {
    "step": ["number"], "weave": ["numbers"], "rest": [], "log": [], "rows": [], "state": ["number"],
    "reason": ["number"], "level_word": ["number"], "looked": ["number"], "made": [], "order": [],
}


def all_told(house, many):
    """All that a house tells of itself."""
    each = [(house.state(n), house.reason(n), house.level_word(n), house.looked(n)) for n in range(1, many + 1)]
    return (house.log(), house.rows(), house.made(), house.order(), each)


class MakingTest(unittest.TestCase):
    def test_no_first_rows_and_no_programs(self):
        house = House({}, [])
        self.assertEqual(all_told(house, 0), ([], [], [], [], []))
        self.assertEqual((house.weave([]), house.rest(), house.log()), ([], [], []))

    def test_first_rows_alone(self):
        house = House({7: 70, -3: 0, 5: -50}, [])
        self.assertEqual(house.rows(), [(-3, 0), (5, -50), (7, 70)])
        self.assertEqual((house.made(), house.order(), house.rest()), ([], [], []))

    def test_programs_that_have_had_no_turn(self):
        house = house_of({5: 50}, "kept: put 5 51", "watch:")
        wanted = [("new", None, "kept", []), ("new", None, "watch", [])]
        self.assertEqual(all_told(house, 2), ([], [(5, 50)], [], [], wanted))

    def test_a_word_that_is_none_of_a_level(self):
        for word in ["", "Watch", "watch ", " watch", "held", "read", "wat", "loosekept", "none", "0"]:
            for programs in [[(word, [])], [("kept", []), (word, [("take", 1)])], [(word, []), ("hold", [])]]:
                with self.subTest(programs):
                    self.assertRaises(NoLevel, House, {}, programs)

    def test_the_words_of_the_levels(self):
        house = house_of({}, *[word + ":" for word in WORDS])
        self.assertEqual([house.level_word(number) for number in range(1, 6)], WORDS)
        house.rest()
        self.assertEqual([house.level_word(number) for number in range(1, 6)], WORDS)

    def test_names_and_arguments(self):
        self.assertEqual(list(inspect.signature(House).parameters), ["rows", "programs"])
        house = House(rows={5: 50}, programs=programs_of("kept:"))
        for name, wanted in METHODS.items():
            self.assertEqual(list(inspect.signature(getattr(house, name)).parameters), wanted, name)
        self.assertEqual(house.step(number=1), [(1, 1, "kept", ())])
        self.assertEqual(house.weave(numbers=[1]), [(2, 1, "idle")])
        self.assertEqual((house.state(number=1), house.reason(number=1)), ("kept", None))
        self.assertEqual((house.level_word(number=1), house.looked(number=1)), ("kept", []))

    def test_somewhat_beyond_the_bounds(self):
        programs = [("kept", [("put", number * 100 + place, place) for place in range(41)]) for number in range(9)]
        house = House({key: key for key in range(-101, 0)}, programs)
        house.weave([number for turn in range(50) for number in range(1, 10)])
        self.assertEqual(len(house.rows()), 101 + 9 * 41)
        self.assertEqual(len(house.log()), 450)


class OwnThingsTest(unittest.TestCase):
    """Point 2: nothing that is handed in is changed, and what is done to things later changes no answer."""

    def test_what_is_handed_in_is_not_changed(self):
        rows = {5: 50, 1: 10}
        programs = programs_of("watch: read a 5; put 5 7; take 1", "loose: sum a 1 9; stop 0 a", "hold:")
        numbers = [1, 2, 3, 1, 2]
        before = copy.deepcopy((rows, programs, numbers))
        house = House(rows, programs)
        house.weave(numbers)
        house.rest()
        self.assertEqual((rows, programs, numbers), before)
        self.assertEqual(list(rows), [5, 1])

    def test_the_dict_changed_behind_the_call(self):
        rows = {5: 50}
        house = House(rows, programs_of("kept: read a 5; count b 1 9"))
        rows[5] = 51
        rows[6] = 60
        self.assertEqual(house.rows(), [(5, 50)])
        self.assertEqual(house.weave([1, 1])[1], (2, 1, "look", 1, 9, ((5, 50),)))
        rows.clear()
        self.assertEqual(house.rows(), [(5, 50)])

    def test_the_programs_and_their_lists_changed_behind_the_call(self):
        programs = programs_of("kept: put 5 51; put 6 61", "watch: take 7")
        house = House({}, programs)
        programs[0][1][1] = ("put", 9, 9)
        programs[0][1].append(("put", 8, 8))
        programs[1][1].clear()
        programs[1] = ("no level", [])
        programs.append(("kept", []))
        self.assertEqual(house.level_word(2), "watch")
        self.assertRaises(NoDealing, house.step, 3)
        house.rest()
        self.assertEqual(house.made(), [(5, [1]), (6, [1]), (7, [2])])
        programs.clear()
        self.assertEqual(house.state(2), "kept")

    def test_the_weaving_changed_behind_the_call(self):
        house, numbers = house_of({}, "kept: put 5 51"), [1]
        house.weave(numbers)
        numbers.append(1)
        self.assertEqual(house.log(), [(1, 1, "put", 5, 51)])

    def test_lists_that_are_given_are_the_askers_own(self):
        house = woven({5: 50}, ["kept: read a 5; put 5 51; put 6 61", "hold: read a 5"], [1, 1, 1, 1, 2, 2])
        asks = [
            house.log, house.rows, house.made, house.order, lambda: house.looked(1), lambda: house.looked(1)[0],
            lambda: house.looked(2)[0], lambda: house.made()[0][1], lambda: house.made()[1][1],
        ]
        for ask in asks:
            before = copy.deepcopy(ask())
            self.assertGreater(len(before), 0)
            ask().append("more")
            self.assertEqual(ask(), before)
            ask().clear()
            self.assertEqual(ask(), before)
            self.assertIsNot(ask(), ask())

    def test_lists_of_turns_are_the_askers_own(self):
        house = house_of({}, "kept: put 5 51; put 6 61; put 7 71")
        house.step(1).clear()
        house.weave([1]).append("more")
        house.rest().clear()
        self.assertEqual([row[0] for row in house.log()], [1, 2, 3, 4])
        self.assertEqual(house.rest(), [])
        house.rest().append("more")
        self.assertEqual((house.rest(), house.weave([])), ([], []))

    def test_empty_lists_are_the_askers_own(self):
        house = house_of({}, "kept:")
        for ask in [house.log, house.rows, house.made, house.order, lambda: house.looked(1)]:
            ask().append("more")
            self.assertEqual(ask(), [])

    def test_the_same_question_again(self):
        house = woven({5: 50}, ["kept: read a 5; put 5 51", "loose: read a 5; put 6 a"], [1, 1, 2, 2, 2])
        before = all_told(house, 2)
        for turn in range(3):
            self.assertEqual(all_told(house, 2), before)

    def test_two_houses_beside_one_another(self):
        rows, programs = {5: 50}, programs_of("kept: put 5 51", "watch: read a 5; put 5 52")
        one, other = House(rows, programs), House(rows, programs)
        one.weave([1, 1])
        self.assertEqual((other.log(), other.rows(), other.state(1)), ([], [(5, 50)], "new"))
        self.assertEqual(other.step(2), [(1, 2, "look", 5, 5, ((5, 50),))])
        self.assertEqual(other.step(2), [(2, 2, "put", 5, 52)])
        self.assertEqual(one.step(2), [(3, 2, "look", 5, 5, ((5, 51),))])
        one.rest()
        other.rest()
        self.assertEqual((one.rows(), other.rows()), ([(5, 52)], [(5, 51)]))
        self.assertEqual((one.made(), other.made()), ([(5, [1, 2])], [(5, [2, 1])]))

    def test_what_a_house_told_is_handed_in_again(self):
        rows, text = {1: BIG}, "kept: read a 1" + "; let a a + a" * 36 + "; put a a; take 1; put 1 a"
        for turn in range(500):
            house = house_of(rows, text)
            house.rest()
            self.assertEqual(len(house.rows()), 2)
            rows = {1: house.rows()[0][1]}
        self.assertEqual(rows, {1: BIG * 2 ** (36 * 500)})
        self.assertGreater(rows[1], HUGE)
        self.assertEqual(house.rows(), [(1, rows[1]), (rows[1], rows[1])])
        self.assertRaises(NoDealing, house.step, rows[1])
        self.assertRaises(NoDealing, house.weave, [1, -rows[1]])
        self.assertGreater(len(show_history(history(house))), 5000)


class NoDealingTest(unittest.TestCase):
    NUMBERS = [0, -1, -2, 3, 4, BIG, -BIG, HUGE, -HUGE]

    def test_each_question(self):
        house = woven({5: 50}, ["kept: put 5 51", "watch: read a 5"], [1, 2])
        before = all_told(house, 2)
        for number in self.NUMBERS:
            for ask in [house.step, house.state, house.reason, house.level_word, house.looked]:
                self.assertRaises(NoDealing, ask, number)
                self.assertEqual(all_told(house, 2), before)

    def test_a_house_without_dealings(self):
        house = House({5: 50}, [])
        for number in [1, 0, -1]:
            for ask in [house.step, house.state, house.reason, house.level_word, house.looked]:
                self.assertRaises(NoDealing, ask, number)
            self.assertRaises(NoDealing, house.weave, [number])

    def test_step_takes_no_turn(self):
        house = house_of({}, "kept: put 5 51", "kept:")
        self.assertRaises(NoDealing, house.step, 3)
        self.assertRaises(NoDealing, house.step, 0)
        self.assertEqual(house.step(1), [(1, 1, "put", 5, 51)])

    def test_weave_ahead_of_all_turns(self):
        house = house_of({5: 50}, "kept: put 5 51", "watch: read a 5")
        before = all_told(house, 2)
        for number in self.NUMBERS:
            for numbers in [[number], [number, 1], [1, number], [1, 1, 2, 2, number], [1, number, 1]]:
                self.assertRaises(NoDealing, house.weave, numbers)
                self.assertEqual(all_told(house, 2), before)
        self.assertEqual(house.weave([2, 1]), [(1, 2, "look", 5, 5, ((5, 50),)), (2, 1, "put", 5, 51)])


class AloneTest(unittest.TestCase):
    """One dealing by itself, which is told the same at each level."""

    def rows_told(self, rows, deeds, wanted, kept=None):
        """The rows of the deeds without the stamp and the number, turn by turn, at each level."""
        for word in WORDS:
            with self.subTest(word):
                house = house_of(rows, word + ": " + deeds)
                for stamp, parts in enumerate(wanted, start=1):
                    self.assertEqual(house.step(1), [(stamp, 1) + parts])
                self.assertEqual(house.log(), [(stamp, 1) + parts for stamp, parts in enumerate(wanted, start=1)])
                if kept is not None:
                    self.assertEqual(house.rows(), kept)

    def test_read(self):
        wanted = [("look", 5, 5, ((5, 50),)), ("let", "b", 51), ("look", 6, 6, ()), ("let", "b", 1), ("kept", ())]
        self.rows_told({5: 50}, "read a 5; let b a + 1; read a 6; let b a + 1", wanted, [(5, 50)])

    def test_read_by_a_name(self):
        wanted = [("let", "k", 5), ("look", 5, 5, ((5, 50),)), ("look", 50, 50, ((50, 3),)), ("look", 0, 0, ((0, 9),))]
        self.rows_told({5: 50, 50: 3, 0: 9}, "let k 2 + 3; read k k; read k k; read z x", wanted)

    def test_sum(self):
        rows = {1: 10, 3: -30, 5: 50, 9: 90}
        wanted = [
            ("look", 1, 5, ((1, 10), (3, -30), (5, 50))), ("let", "b", 30), ("look", 6, 8, ()), ("let", "b", 0),
            ("look", 5, 3, ()), ("let", "b", 0), ("kept", ()),
        ]
        self.rows_told(rows, "sum a 1 5; let b a + 0; sum a 6 8; let b a + 0; sum a 5 3; let b a + 0", wanted)

    def test_count_by_names(self):
        wanted = [
            ("let", "l", 2), ("let", "h", 5), ("look", 2, 5, ((2, 0), (5, 50))), ("let", "b", 2),
            ("look", 2, -1, ()), ("let", "b", 0),
        ]
        deeds = "let l 1 + 1; let h l + 3; count a l h; let b a + 0; count a l -1; let b a + 0"
        self.rows_told({1: 10, 2: 0, 5: 50, 6: 60}, deeds, wanted)

    def test_put(self):
        wanted = [("put", 5, 51), ("let", "k", 7), ("put", 7, 7), ("put", 5, 0), ("put", 0, 7)]
        wanted += [("kept", ((0, 7), (5, 0), (7, 7)))]
        deeds = "put 5 51; let k 4 + 3; put k k; put 5 z; put z k"
        self.rows_told({5: 50, 6: 60}, deeds, wanted, [(0, 7), (5, 0), (6, 60), (7, 7)])

    def test_take(self):
        wanted = [("put", 5, None), ("put", 8, None), ("let", "k", 6), ("put", 6, None), ("put", 7, 70)]
        wanted += [("put", 7, None), ("put", 5, 55), ("kept", ((5, 55), (6, None), (7, None), (8, None)))]
        deeds = "take 5; take 8; let k 5 + 1; take k; put 7 70; take 7; put 5 55"
        self.rows_told({5: 50, 6: 60, 9: 90}, deeds, wanted, [(5, 55), (9, 90)])

    def test_let(self):
        wanted = [("let", "a", -2), ("let", "b", -7), ("let", "a", -9), ("let", "c", 9), ("let", "d", 0), ("kept", ())]
        self.rows_told({}, "let a 3 - 5; let b a - 5; let a a + b; let c z - a; let d y + x", wanted, [])

    def test_skip(self):
        wanted = [("let", "a", 1), ("go", 4), ("go", 5), ("go", 7), ("kept", ())]
        deeds = "let a 1 + 0; skip z a 2; put 1 1; put 2 2; skip a a 2; skip -1 0 1; put 3 3"
        self.rows_told({}, deeds, wanted, [])

    def test_a_skip_to_the_end_and_beyond_it(self):
        for many in [1, 2, 40]:
            self.rows_told({}, f"skip 0 1 {many}; put 1 1", [("go", 2), ("kept", ()), ("idle",)], [])
        self.rows_told({}, "skip 0 1 40", [("go", 1), ("kept", ())], [])
        self.rows_told({}, "skip 1 1 40; put 1 1", [("go", 1), ("put", 1, 1), ("kept", ((1, 1),))], [(1, 1)])

    def test_a_stop_that_is_under(self):
        self.rows_told({5: 50}, "put 5 51; stop 4 5; put 6 60", [("put", 5, 51), ("broken", ("own",)), ("idle",)], [(5, 50)])
        for word in WORDS:
            house = woven({5: 50}, [word + ": put 5 51; stop z 1"], [1, 1])
            self.assertEqual((house.state(1), house.reason(1), house.looked(1)), ("broken", ("own",), []))
            self.assertEqual((house.made(), house.order()), ([], []))

    def test_a_stop_that_is_not_under(self):
        wanted = [("put", 5, 51), ("go", 2), ("go", 3), ("go", 4), ("kept", ((5, 51),))]
        self.rows_told({5: 50}, "put 5 51; stop 5 5; stop 5 -4; stop z z", wanted, [(5, 51)])

    def test_own_puts_and_takes_seen_by_own_looks(self):
        wanted = [
            ("put", 5, 51), ("look", 5, 5, ((5, 51),)), ("put", 6, None), ("put", 7, 0),
            ("look", 1, 9, ((4, 40), (5, 51), (7, 0))), ("put", 5, None), ("look", 5, 5, ()), ("put", 5, 52),
            ("look", 5, 6, ((5, 52),)), ("kept", ((5, 52), (6, None), (7, 0))),
        ]
        deeds = "put 5 51; read a 5; take 6; put 7 0; sum a 1 9; take 5; read a 5; put 5 52; count a 5 6"
        self.rows_told({4: 40, 5: 50, 6: 60}, deeds, wanted, [(4, 40), (5, 52), (7, 0)])

    def test_what_a_look_tells_of_own_puts(self):
        wanted = [("put", 5, 51), ("look", 5, 9, ((5, 51), (6, 60))), ("put", 1, 111)]
        self.rows_told({5: 50, 6: 60}, "put 5 51; sum a 5 9; put 1 a", wanted)

    def test_without_deeds(self):
        for word in WORDS:
            house = house_of({5: 50}, word + ":")
            self.assertEqual(house.state(1), "new")
            self.assertEqual(house.step(1), [(1, 1, "kept", ())])
            self.assertEqual((house.state(1), house.reason(1), house.looked(1)), ("kept", None, []))
            self.assertEqual(house.order(), [(1, 0), (1, 1)] if word == "make" else [(1, 0)])
            self.assertEqual((house.made(), house.rows()), ([], [(5, 50)]))

    def test_turns_behind_the_end(self):
        self.rows_told({}, "put 5 1", [("put", 5, 1), ("kept", ((5, 1),)), ("idle",), ("idle",)], [(5, 1)])
        self.rows_told({}, "stop 0 1", [("broken", ("own",)), ("idle",), ("idle",)], [])

    def test_the_states(self):
        for word in WORDS:
            house, states = house_of({}, word + ": put 5 1; let a 1 + 1; stop 1 0"), []
            for turn in range(6):
                states.append(house.state(1))
                house.step(1)
            self.assertEqual(states, ["new", "going", "going", "going", "kept", "kept"])

    def test_numbers_that_grow(self):
        deeds = f"let a {BIG} + {BIG}; let a a + a; put a a; read b a; let c b + a"
        wanted = [
            ("let", "a", 2 * BIG), ("let", "a", 4 * BIG), ("put", 4 * BIG, 4 * BIG),
            ("look", 4 * BIG, 4 * BIG, ((4 * BIG, 4 * BIG),)), ("let", "c", 8 * BIG), ("kept", ((4 * BIG, 4 * BIG),)),
        ]
        self.rows_told({}, deeds, wanted, [(4 * BIG, 4 * BIG)])

    def test_names_are_each_dealings_own(self):
        house = woven({}, ["kept: let a 5 + 5; put 1 a", "kept: put 2 a"], [1, 2, 1])
        self.assertEqual(house.log()[1:], [(2, 2, "put", 2, 0), (3, 1, "put", 1, 10)])


class TurnsTest(unittest.TestCase):
    def test_each_turn_takes_the_next_stamp(self):
        house = house_of({}, "kept: put 5 1; put 6 1", "hold: read a 5; stop 0 1", "loose:")
        numbers = [3, 3, 1, 2, 2, 1, 1, 2, 2, 1]
        kinds = ["kept", "idle", "put", "wait", "wait", "put", "kept", "look", "broken", "idle"]
        rows = house.weave(numbers)
        self.assertEqual([row[:3] for row in rows], list(zip(range(1, 11), numbers, kinds)))
        self.assertEqual(house.step(1)[0][0], 11)

    def test_weave_tells_the_rows_of_its_turns(self):
        texts = ["kept: put 5 1; put 6 1", "watch: read a 5", "make: take 6"]
        numbers = [1, 2, 3, 3, 1, 2, 2, 1, 3]
        house, steps = house_of({}, *texts), []
        for number in numbers:
            steps += house.step(number)
        other = house_of({}, *texts)
        told = other.weave(numbers[:4])
        self.assertEqual(other.log(), told)
        told += other.weave(numbers[4:])
        self.assertEqual((told, other.log(), house.log()), (steps, steps, steps))

    def test_rest_goes_round_by_rising_numbers(self):
        house = house_of({}, "kept: put 1 1; put 2 2", "kept:", "kept: put 3 3")
        rows = house.rest()
        self.assertEqual([row[1] for row in rows], [1, 2, 3, 1, 3, 1])
        self.assertEqual([row[0] for row in rows], [1, 2, 3, 4, 5, 6])
        self.assertEqual(house.log(), rows)

    def test_rest_begins_with_the_first_whoever_had_the_last_turn(self):
        house = woven({}, ["kept: put 1 1", "kept: put 2 2", "kept: put 3 3"], [1, 2])
        self.assertEqual([row[1] for row in house.rest()], [1, 2, 3, 3])

    def test_rest_gives_no_turn_to_one_that_was_broken_off_in_its_round(self):
        house = house_of({}, "kept: put 1 1; put 2 2", "kept: put 2 2; put 1 1", "kept: put 3 3")
        rows = house.weave([1, 2, 2]) + house.rest()
        wanted = [
            (1, 1, "put", 1, 1), (2, 2, "put", 2, 2), (3, 2, "wait", (1,)),
            (4, 2, "broken", ("ring", (1, 2))), (4, 1, "put", 2, 2), (5, 3, "put", 3, 3),
            (6, 1, "kept", ((1, 1), (2, 2))), (7, 3, "kept", ((3, 3),)),
        ]
        self.assertEqual(rows, wanted)

    def test_rest_of_a_house_at_rest(self):
        house = house_of({}, "kept:", "watch: stop 0 1")
        self.assertEqual(len(house.rest()), 2)
        self.assertEqual(house.rest(), [])
        self.assertEqual(house.step(1), [(3, 1, "idle")])


if __name__ == "__main__":
    unittest.main()
