"""Points 53 to 55, 57 and 58: holds of dealings beside one another, waits, and rings of waits."""

import unittest

from tests.helper import WORDS, house_of, woven


def kinds(house):
    return [row[1:3] for row in house.log()]


class WaitsTest(unittest.TestCase):
    def test_a_put_beside_a_look_at_hold(self):
        for word in WORDS:
            for deed in ["put 5 51", "take 5"]:
                house = woven({5: 50}, ["hold: read a 5", word + ": " + deed], [1, 2])
                self.assertEqual(house.log()[1], (2, 2, "wait", (1,)), word)

    def test_a_look_at_hold_beside_a_put(self):
        for word in WORDS:
            for deed in ["put 5 51", "take 5"]:
                house = woven({5: 50}, [word + ": " + deed, "hold: read a 5"], [1, 2, 1, 2])
                self.assertEqual(house.log()[1], (2, 2, "wait", (1,)), word)
                self.assertEqual(house.log()[3][5], () if deed == "take 5" else ((5, 51),))

    def test_a_put_beside_a_put(self):
        for word in WORDS:
            for other in WORDS:
                house = woven({}, [word + ": put 5 51", other + ": take 5"], [1, 2])
                self.assertEqual(house.log()[1], (2, 2, "wait", (1,)))

    def test_looks_of_other_levels_take_none_and_never_wait(self):
        for word in ["loose", "kept", "make", "watch"]:
            house = woven({5: 50}, [word + ": read a 5; sum a 1 9", "kept: put 5 51; put 6 6"], [1, 1, 2, 2])
            self.assertEqual(kinds(house), [(1, "look"), (1, "look"), (2, "put"), (2, "put")], word)
            house = woven({5: 50}, ["kept: put 5 51", word + ": read a 5; count a 1 9"], [1, 2, 2])
            self.assertEqual(kinds(house), [(1, "put"), (2, "look"), (2, "look")], word)

    def test_looks_at_hold_beside_one_another(self):
        house = woven({5: 50}, ["hold: read a 5", "hold: sum a 1 9", "hold: count a 5 5"], [1, 2, 3])
        self.assertEqual(kinds(house), [(1, "look"), (2, "look"), (3, "look")])

    def test_keys_of_a_stretch_that_have_no_row(self):
        house = woven({5: 50}, ["hold: sum a 3 7", "kept: put 2 2; put 8 8; put 7 7"], [1, 2, 2, 2])
        self.assertEqual(kinds(house), [(1, "look"), (2, "put"), (2, "put"), (2, "wait")])
        house = woven({5: 50}, ["hold: sum a 3 7", "kept: put 3 3"], [1, 2])
        self.assertEqual(kinds(house)[1], (2, "wait"))

    def test_an_empty_stretch(self):
        house = woven({5: 50}, ["hold: sum a 7 3", "kept: put 5 5"], [1, 2])
        self.assertEqual(kinds(house), [(1, "look"), (2, "put")])
        house = woven({5: 50}, ["kept: put 5 5", "hold: sum a 7 3"], [1, 2])
        self.assertEqual(kinds(house), [(1, "put"), (2, "look")])

    def test_own_holds_are_not_in_the_way(self):
        texts = ["hold: read a 5; put 5 51; read a 5; take 5; sum a 1 9; put 7 7"]
        self.assertEqual([kind for number, kind in kinds(woven({5: 50}, texts, [1] * 7))], ["look", "put"] * 3 + ["kept"])

    def test_own_hold_beside_anothers(self):
        house = woven({5: 50}, ["hold: read a 5; put 5 51", "hold: read a 5"], [1, 2, 1, 2, 1])
        self.assertEqual(kinds(house), [(1, "look"), (2, "look"), (1, "wait"), (2, "kept"), (1, "put")])
        self.assertEqual(house.log()[2], (3, 1, "wait", (2,)))

    def test_all_that_stand_against_it(self):
        texts = ["kept: put 5 5", "hold: read a 5", "hold: read a 5", "hold: sum a 1 5", "hold: read a 6"]
        house = woven({}, texts, [4, 2, 5, 3, 1])
        self.assertEqual(house.log()[-1], (5, 1, "wait", (2, 3, 4)))

    def test_puts_in_the_midst_of_a_stretch(self):
        texts = ["hold: sum a 1 9", "kept: put 3 3", "watch: take 7", "kept: put 10 1", "loose: put 1 1"]
        house = woven({}, texts, [5, 4, 3, 2, 1])
        self.assertEqual(house.log()[-1], (5, 1, "wait", (2, 3, 5)))

    def test_there_is_no_queue(self):
        texts = ["hold: read a 5", "kept: put 5 5", "hold: read a 5"]
        house = woven({}, texts, [1, 2, 3, 2, 1, 2, 3, 2])
        wanted = [(2, 2, "wait", (1,)), (3, 3, "look", 5, 5, ()), (4, 2, "wait", (1, 3)), (5, 1, "kept", ())]
        self.assertEqual(house.log()[1:5], wanted)
        self.assertEqual(house.log()[5:], [(6, 2, "wait", (3,)), (7, 3, "kept", ()), (8, 2, "put", 5, 5)])

    def test_who_comes_first_gets_it(self):
        house = woven({}, ["kept: put 5 1", "kept: put 5 2", "kept: put 5 3"], [1, 2, 3, 1, 3, 2])
        self.assertEqual(kinds(house)[3:], [(1, "kept"), (3, "put"), (2, "wait")])

    def test_holds_are_kept_to_the_end(self):
        house = woven({}, ["kept: put 5 1; let a 1 + 1; stop 1 0", "kept: put 5 2"], [1, 2, 1, 2, 1, 2, 1, 2])
        self.assertEqual([kind for number, kind in kinds(house)][1::2], ["wait", "wait", "wait", "put"])

    def test_free_behind_a_breaking_off(self):
        house = woven({5: 50}, ["hold: read a 5; put 6 1; stop 0 1", "kept: put 5 2; put 6 2"], [1, 1, 2, 1, 2, 2, 2])
        self.assertEqual(kinds(house)[2:], [(2, "wait"), (1, "broken"), (2, "put"), (2, "put"), (2, "kept")])
        self.assertEqual(house.rows(), [(5, 2), (6, 2)])

    def test_a_look_that_waited_stands_where_it_is_done(self):
        house = woven({5: 50}, ["hold: let a 1 + 1; read a 5", "kept: put 5 51"], [2, 1, 1, 2, 1, 1])
        self.assertEqual(house.log()[2::2], [(3, 1, "wait", (2,)), (5, 1, "look", 5, 5, ((5, 51),))])
        self.assertEqual(house.looked(1), [[(5, 2)]])

    def test_the_deed_is_tried_with_the_same_names(self):
        house = woven({}, ["kept: put 5 1", "kept: let k 2 + 3; let v 4 + 4; put k v"], [1, 2, 2, 2, 1, 2])
        self.assertEqual(house.log()[3::2], [(4, 2, "wait", (1,)), (6, 2, "put", 5, 8)])


class StateTest(unittest.TestCase):
    def test_waiting_until_the_own_next_turn(self):
        house = woven({}, ["kept: put 5 1", "kept: put 5 2"], [1, 2])
        self.assertEqual((house.state(1), house.state(2)), ("going", "waiting"))
        house.step(1)
        self.assertEqual((house.state(1), house.state(2)), ("kept", "waiting"))
        house.step(1)
        self.assertEqual(house.state(2), "waiting")
        house.step(2)
        self.assertEqual(house.state(2), "going")
        house.step(2)
        self.assertEqual((house.state(2), house.reason(2)), ("kept", None))

    def test_waiting_again(self):
        house = woven({}, ["kept: put 5 1; put 6 1", "kept: put 5 2"], [1, 2, 2, 1, 2])
        self.assertEqual(house.state(2), "waiting")
        self.assertEqual([row[2] for row in house.log() if row[1] == 2], ["wait"] * 3)

    def test_waiting_until_the_end(self):
        house = woven({}, ["kept: put 1 1; put 2 2", "kept: put 2 2; put 1 1"], [1, 2, 2])
        self.assertEqual(house.state(2), "waiting")
        house.step(1)
        self.assertEqual((house.state(1), house.state(2)), ("going", "broken"))

    def test_waiting_at_the_first_turn(self):
        house = woven({}, ["kept: put 5 1", "kept: put 5 2"], [1, 2])
        self.assertEqual((house.state(2), house.looked(2), house.reason(2)), ("waiting", [], None))


class RingsTest(unittest.TestCase):
    CROSSED = ["put 1 1; put 2 2", "put 2 2; put 1 1"]

    def test_the_one_whose_turn_it_is_breaks_off(self):
        for word in WORDS:
            for other in WORDS:
                house = woven({}, [word + ": " + self.CROSSED[0], other + ": " + self.CROSSED[1]], [1, 2, 1, 2, 1, 1])
                wanted = [(3, 1, "wait", (2,)), (4, 2, "broken", ("ring", (2, 1))), (5, 1, "put", 2, 2)]
                self.assertEqual(house.log()[2:5], wanted)
                self.assertEqual((house.reason(2), house.state(1)), (("ring", (2, 1)), "kept"))

    def test_another_one_breaks_off_and_the_deed_is_tried_once_more(self):
        house = house_of({}, *["kept: " + deeds for deeds in self.CROSSED])
        house.weave([1, 2, 2])
        self.assertEqual(house.step(1), [(4, 2, "broken", ("ring", (1, 2))), (4, 1, "put", 2, 2)])
        self.assertEqual((house.state(1), house.state(2), house.reason(2)), ("going", "broken", ("ring", (1, 2))))
        self.assertEqual(house.weave([2, 1]), [(5, 2, "idle"), (6, 1, "kept", ((1, 1), (2, 2)))])

    def test_who_began_last_not_who_has_the_greater_number(self):
        house = woven({}, ["kept: " + deeds for deeds in self.CROSSED], [2, 1, 2, 1])
        self.assertEqual(house.log()[-1], (4, 1, "broken", ("ring", (1, 2))))
        house = woven({}, ["kept: " + deeds for deeds in self.CROSSED], [2, 1, 1, 2])
        self.assertEqual(house.log()[3:], [(4, 1, "broken", ("ring", (2, 1))), (4, 2, "put", 1, 1)])

    def test_who_began_last_not_who_took_the_hold_last(self):
        texts = ["kept: let a 1 + 1; put 1 1; put 2 2", "kept: put 2 2; put 1 1"]
        house = woven({}, texts, [1, 2, 1, 2, 1])
        self.assertEqual(house.log()[4:], [(5, 2, "broken", ("ring", (1, 2))), (5, 1, "put", 2, 2)])

    def test_of_looks_at_hold(self):
        texts = ["hold: read a 5; put 5 a"] * 2
        house = woven({5: 50}, texts, [1, 2, 1, 2, 1])
        self.assertEqual(house.log()[2:], [(3, 1, "wait", (2,)), (4, 2, "broken", ("ring", (2, 1))), (5, 1, "put", 5, 50)])
        house = woven({5: 50}, texts, [1, 2, 2, 1])
        self.assertEqual(house.log()[3:], [(4, 2, "broken", ("ring", (1, 2))), (4, 1, "put", 5, 50)])

    def test_of_a_look_and_puts(self):
        texts = ["hold: read a 5; read a 6", "kept: put 6 1; put 5 1"]
        house = woven({5: 50}, texts, [1, 2, 2, 1])
        self.assertEqual(house.log()[2:], [
            (3, 2, "wait", (1,)), (4, 2, "broken", ("ring", (1, 2))), (4, 1, "look", 6, 6, ()),
        ])

    def three(self, numbers):
        return woven({}, ["kept: put 1 1; put 2 1", "make: put 2 2; put 3 2", "watch: put 3 3; put 1 3"], numbers)

    def test_of_three(self):
        house = self.three([1, 2, 3, 1, 2, 3])
        self.assertEqual(house.log()[3:], [
            (4, 1, "wait", (2,)), (5, 2, "wait", (3,)), (6, 3, "broken", ("ring", (3, 1, 2))),
        ])
        house = self.three([1, 2, 3, 2, 3, 1])
        self.assertEqual(house.log()[5:], [(6, 3, "broken", ("ring", (1, 2, 3))), (6, 1, "wait", (2,))])
        house = self.three([1, 3, 2, 3, 1, 2])
        self.assertEqual(house.log()[5:], [(6, 2, "broken", ("ring", (2, 3, 1)))])
        house = self.three([3, 1, 2, 1, 2, 3])
        self.assertEqual(house.log()[5:], [(6, 2, "broken", ("ring", (3, 1, 2))), (6, 3, "wait", (1,))])

    def test_of_three_once_more_with_the_hold_free(self):
        house = self.three([1, 3, 2, 3, 2, 1])
        self.assertEqual(house.log()[3:5], [(4, 3, "wait", (1,)), (5, 2, "wait", (3,))])
        self.assertEqual(house.log()[5:], [(6, 2, "broken", ("ring", (1, 2, 3))), (6, 1, "put", 2, 1)])

    def test_several_rings_at_one_turn(self):
        texts = ["kept: put 1 1; put 5 5", "hold: read a 5; read b 1", "hold: sum a 4 6; read b 1"]
        house = woven({}, texts, [1, 2, 3, 3, 2])
        self.assertEqual(house.step(1), [
            (6, 2, "broken", ("ring", (1, 2))), (6, 3, "broken", ("ring", (1, 3))), (6, 1, "put", 5, 5),
        ])
        self.assertEqual((house.state(1), house.state(2), house.state(3)), ("going", "broken", "broken"))

    def test_the_last_of_several_rings_is_its_own(self):
        texts = ["kept: put 1 1; put 5 5", "hold: read a 5; read b 1", "hold: read a 5; read b 1"]
        house = woven({}, texts, [3, 1, 2, 3, 2])
        self.assertEqual(house.step(1), [(6, 2, "broken", ("ring", (1, 2))), (6, 1, "broken", ("ring", (1, 3)))])
        self.assertEqual((house.state(1), house.state(3)), ("broken", "waiting"))
        self.assertEqual(house.step(3), [(7, 3, "look", 1, 1, ())])

    def test_its_own_ring_comes_first(self):
        texts = ["kept: put 1 1; put 5 5", "hold: read a 5; read b 1", "hold: read a 5; read b 1"]
        house = woven({}, texts, [2, 1, 3, 3, 2])
        self.assertEqual(house.step(1), [(6, 1, "broken", ("ring", (1, 2)))])
        self.assertEqual(house.state(3), "waiting")

    def test_a_wait_behind_a_ring(self):
        texts = ["kept: put 1 1; put 5 5", "hold: read a 5; read b 1", "hold: read a 5; let a 1 + 1"]
        house = woven({}, texts, [1, 2, 3, 2])
        self.assertEqual(house.step(1), [(5, 2, "broken", ("ring", (1, 2))), (5, 1, "wait", (3,))])
        self.assertEqual((house.state(1), house.state(2)), ("waiting", "broken"))

    def test_the_shortest_ring_comes_first(self):
        texts = [
            "kept: put 1 1; put 9 9", "hold: read a 9; read b 2", "hold: put 2 2; read b 1", "hold: read a 9; read b 1",
        ]
        house = woven({}, texts, [1, 2, 3, 4, 2, 3, 4])
        self.assertEqual([row[3] for row in house.log()[4:]], [(3,), (1,), (1,)])
        self.assertEqual(house.step(1), [
            (8, 4, "broken", ("ring", (1, 4))), (8, 3, "broken", ("ring", (1, 2, 3))), (8, 1, "wait", (2,)),
        ])

    def test_waits_are_asked_for_at_the_time(self):
        # The dealing 2 began to wait for 1 alone; 3 took a hold in its way later, and so is waited for, too.
        texts = ["hold: read a 5", "kept: put 6 6; put 5 5", "hold: read a 5; read a 6"]
        house = woven({}, texts, [1, 2, 2, 3])
        self.assertEqual(house.log()[2], (3, 2, "wait", (1,)))
        self.assertEqual(house.step(3), [(5, 3, "broken", ("ring", (3, 2)))])

    def test_a_wait_whose_cause_is_gone(self):
        # The dealing 2 is waiting still, but for nobody, since 1 has ended; so there is no ring.
        texts = ["kept: put 5 5", "kept: put 6 6; put 5 5", "kept: put 7 7; put 6 6"]
        house = woven({}, texts, [1, 2, 3, 2, 1, 3])
        self.assertEqual(house.state(2), "waiting")
        self.assertEqual(house.log()[-1], (6, 3, "wait", (2,)))

    def test_what_the_broken_one_put_is_gone(self):
        house = woven({1: 10, 2: 20}, ["kept: " + deeds for deeds in self.CROSSED] + ["loose: sum a 1 2"], [1, 2, 2, 1, 3])
        self.assertEqual(house.log()[-1], (5, 3, "look", 1, 2, ((1, 1), (2, 2))))
        house.rest()
        self.assertEqual((house.rows(), house.made()), ([(1, 1), (2, 2)], [(1, [1]), (2, [1])]))

    def test_a_first_writer_comes_ahead_of_a_ring(self):
        texts = ["make: put 1 1; put 2 2", "kept: put 2 2", "kept: put 2 3; put 1 3"]
        house = woven({}, texts, [1, 2, 2, 3, 3])
        self.assertEqual(house.step(1), [(6, 1, "broken", ("first", 2, 2))])
        self.assertEqual(house.state(3), "waiting")


if __name__ == "__main__":
    unittest.main()
