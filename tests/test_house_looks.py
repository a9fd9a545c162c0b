"""Points 53, 54 and 59: what looks see beside other dealings, first writers, and looks told by their sources."""

import unittest

from tests.helper import WORDS, house_of, woven

AT_BEGIN = ["make", "watch"]
WRITERS = ["loose", "kept", "hold"]


def seen(house, number):
    """What each look of the dealing saw."""
    return [row[5] for row in house.log() if row[1] == number and row[2] == "look"]


class LooksTest(unittest.TestCase):
    """In most of these the dealing 1 looks at the key 5, where 50 stands, and the dealing 2 puts 51 there."""

    def seen_at(self, word, looks, numbers, put="put 5 51"):
        return seen(woven({5: 50}, [word + ": " + looks, "kept: " + put], numbers), 1)

    def test_what_is_put_and_not_kept(self):
        for word in ["kept", "make", "watch"]:
            self.assertEqual(self.seen_at(word, "read a 5", [2, 1]), [((5, 50),)], word)
        self.assertEqual(self.seen_at("loose", "read a 5", [2, 1]), [((5, 51),)])
        house = woven({5: 50}, ["hold: read a 5", "kept: put 5 51"], [2, 1])
        self.assertEqual(house.log()[1], (2, 1, "wait", (2,)))

    def test_what_is_kept_ahead_of_the_begin(self):
        for word in WORDS:
            self.assertEqual(self.seen_at(word, "read a 5", [2, 2, 1]), [((5, 51),)], word)

    def test_what_is_kept_behind_the_begin_and_ahead_of_the_look(self):
        for word in WORDS:
            wanted = 50 if word in AT_BEGIN else 51
            self.assertEqual(self.seen_at(word, "let a 1 + 1; read a 5", [1, 2, 2, 1]), [((5, wanted),)], word)

    def test_a_look_twice(self):
        wanted = {"loose": [51, 51], "kept": [50, 51], "make": [50, 50], "watch": [50, 50]}
        for word, values in wanted.items():
            looks = self.seen_at(word, "read a 5; read a 5", [2, 1, 2, 1])
            self.assertEqual(looks, [((5, value),) for value in values], word)

    def test_a_look_at_hold_twice(self):
        house = woven({5: 50}, ["hold: read a 5; read a 5", "kept: put 5 51"], [1, 2, 1, 2, 1, 2, 2])
        self.assertEqual(seen(house, 1), [((5, 50),), ((5, 50),)])
        self.assertEqual([row[2] for row in house.log()], ["look", "wait", "look", "wait", "kept", "put", "kept"])

    def test_a_take_that_is_kept(self):
        for word in WORDS:
            self.assertEqual(self.seen_at(word, "read a 5", [2, 2, 1], "take 5"), [()], word)
            wanted = [((5, 50),)] if word in AT_BEGIN else [()]
            self.assertEqual(self.seen_at(word, "let a 1 + 1; read a 5", [1, 2, 2, 1], "take 5"), wanted, word)

    def test_a_take_that_is_not_kept(self):
        for word in ["kept", "make", "watch"]:
            self.assertEqual(self.seen_at(word, "count a 1 9", [2, 1], "take 5"), [((5, 50),)], word)
        self.assertEqual(self.seen_at("loose", "count a 1 9", [2, 1], "take 5"), [()])

    def test_a_row_that_is_new_in_a_stretch(self):
        for word in WORDS:
            wanted = [((5, 50),)] if word in AT_BEGIN else [((5, 50), (7, 70))]
            looks = self.seen_at(word, "let a 1 + 1; sum a 1 9", [1, 2, 2, 1], "put 7 70")
            self.assertEqual(looks, wanted, word)

    def test_what_another_put_and_the_dealing_itself(self):
        for word in WRITERS:
            house = woven({5: 50}, [word + ": put 6 1; count a 1 9", "kept: put 5 51"], [1, 2, 2, 1])
            self.assertEqual(seen(house, 1), [((5, 51), (6, 1))], word)
        for word in AT_BEGIN:
            house = woven({5: 50}, [word + ": put 6 1; count a 1 9", "kept: put 5 51"], [1, 2, 2, 1])
            self.assertEqual(seen(house, 1), [((5, 50), (6, 1))], word)

    def test_the_number_that_a_look_tells(self):
        for word, wanted in [("kept", 121), ("loose", 121), ("make", 120), ("watch", 120), ("hold", 121)]:
            texts = [word + ": let a 1 + 1; sum a 1 9; put 9 a", "kept: put 5 51"]
            house = woven({5: 50, 7: 70}, texts, [1, 2, 2, 1, 1])
            self.assertEqual(house.log()[-1], (5, 1, "put", 9, wanted), word)


class LooseTest(unittest.TestCase):
    def test_the_drafts_of_several_others(self):
        texts = ["loose: put 4 44; sum a 1 9", "kept: put 1 11", "hold: take 2", "watch: put 3 33", "loose: put 6 66"]
        house = woven({1: 1, 2: 2, 3: 3, 4: 4, 5: 5}, texts, [2, 3, 4, 5, 1, 1])
        self.assertEqual(seen(house, 1), [((1, 11), (3, 33), (4, 44), (5, 5), (6, 66))])

    def test_drafts_outside_the_stretch(self):
        texts = ["loose: sum a 2 4; read a 9", "kept: put 1 11; put 5 55; put 3 33"]
        house = woven({1: 1, 3: 3, 5: 5}, texts, [2, 2, 2, 1, 1])
        self.assertEqual(seen(house, 1), [((3, 33),), ()])
        house.rest()
        self.assertEqual(house.looked(1), [[(3, 2)], []])

    def test_drafts_put_again(self):
        texts = ["loose: read a 5; read a 5; read a 5", "kept: put 5 51; put 5 52; take 5"]
        house = woven({}, texts, [2, 1, 2, 1, 2, 1])
        self.assertEqual(seen(house, 1), [((5, 51),), ((5, 52),), ()])

    def test_drafts_of_one_that_waits(self):
        texts = ["loose: read a 5", "kept: put 5 51; put 6 61", "kept: put 6 62"]
        house = woven({}, texts, [3, 2, 2, 1])
        self.assertEqual((house.state(2), seen(house, 1)), ("waiting", [((5, 51),)]))

    def test_drafts_of_one_that_is_broken_off(self):
        house = woven({5: 50}, ["loose: read a 5; read a 5", "kept: put 5 51; stop 0 1"], [2, 1, 2, 1])
        self.assertEqual(seen(house, 1), [((5, 51),), ((5, 50),)])

    def test_drafts_of_one_that_is_kept_and_put_over(self):
        house = woven({5: 50}, ["loose: read a 5", "kept: put 5 51", "kept: put 5 52"], [2, 2, 3, 3, 1])
        self.assertEqual(seen(house, 1), [((5, 52),)])

    def test_drafts_of_a_loose_one_are_seen_by_loose_ones_alone(self):
        for word in ["kept", "make", "watch"]:
            house = woven({5: 50}, [word + ": read a 5", "loose: put 5 51"], [2, 1])
            self.assertEqual(seen(house, 1), [((5, 50),)], word)
        house = woven({5: 50}, ["loose: read a 5", "loose: put 5 51"], [2, 1])
        self.assertEqual(seen(house, 1), [((5, 51),)])

    def test_its_looks_never_wait(self):
        house = woven({5: 50}, ["loose: read a 5", "hold: read a 5; put 5 51"], [2, 2, 1])
        self.assertEqual(house.log()[-1], (3, 1, "look", 5, 5, ((5, 51),)))


class FirstWriterTest(unittest.TestCase):
    def ends(self, first, other, numbers):
        """The last row of the dealing 1, behind these turns."""
        house = woven({5: 50}, [first, other], numbers)
        return [row for row in house.log() if row[1] == 1][-1][2:]

    def test_a_put_behind_anothers_keep(self):
        for word in AT_BEGIN:
            for deed, other in [("put 5 1", "put 5 51"), ("take 5", "put 5 51"), ("put 5 1", "take 5"), ("take 5", "take 5")]:
                text = word + ": let a 1 + 1; " + deed
                self.assertEqual(self.ends(text, "kept: " + other, [1, 2, 2, 1]), ("broken", ("first", 5, 2)))

    def test_none_at_the_other_levels(self):
        for word in WRITERS:
            told = self.ends(word + ": let a 1 + 1; put 5 1", "kept: put 5 51", [1, 2, 2, 1])
            self.assertEqual(told, ("put", 5, 1), word)
            house = woven({}, [word + ": let a 1 + 1; put 5 1", "kept: put 5 51"], [1, 2, 2, 1, 1])
            self.assertEqual((house.state(1), house.made()), ("kept", [(5, [2, 1])]))

    def test_whatever_the_other_ones_level(self):
        for word in AT_BEGIN:
            for other in WORDS:
                told = self.ends(word + ": let a 1 + 1; put 5 1", other + ": put 5 51", [1, 2, 2, 1])
                self.assertEqual(told, ("broken", ("first", 5, 2)), other)

    def test_a_keep_ahead_of_the_begin(self):
        for word in AT_BEGIN:
            self.assertEqual(self.ends(word + ": put 5 1", "kept: put 5 51", [2, 2, 1]), ("put", 5, 1))

    def test_a_keep_of_another_key(self):
        for word in AT_BEGIN:
            self.assertEqual(self.ends(word + ": let a 1 + 1; put 5 1", "kept: put 6 1", [1, 2, 2, 1]), ("put", 5, 1))

    def test_one_that_was_broken_off_is_no_first_writer(self):
        for word in AT_BEGIN:
            told = self.ends(word + ": let a 1 + 1; put 5 1", "kept: put 5 51; stop 0 1", [1, 2, 2, 1])
            self.assertEqual(told, ("put", 5, 1))

    def test_the_maker_of_the_newest_make(self):
        texts = ["make: let a 1 + 1; put 5 1", "kept: put 5 51", "kept: put 5 52"]
        for numbers, maker in [([1, 2, 2, 3, 3, 1], 3), ([1, 3, 3, 2, 2, 1], 2), ([3, 3, 1, 2, 2, 1], 2)]:
            self.assertEqual(woven({}, texts, numbers).reason(1), ("first", 5, maker))

    def test_at_the_first_turn_there_is_none(self):
        for word in AT_BEGIN:
            told = self.ends(word + ": put 5 1; put 6 1", "kept: put 6 61", [1, 2, 2, 1])
            self.assertEqual(told, ("broken", ("first", 6, 2)))
            self.assertEqual(self.ends(word + ": put 5 1", "kept: put 5 51", [1]), ("put", 5, 1))

    def test_when_a_wait_is_tried_again(self):
        for word in AT_BEGIN:
            house = woven({}, [word + ": let a 1 + 1; put 5 1", "kept: put 5 51"], [2, 1, 1, 2, 1])
            self.assertEqual(house.log()[2], (3, 1, "wait", (2,)))
            self.assertEqual(house.log()[4], (5, 1, "broken", ("first", 5, 2)))
            house = woven({}, [word + ": put 5 1", "kept: put 5 51"], [2, 1, 2, 1])
            self.assertEqual(house.log()[1::2], [(2, 1, "wait", (2,)), (4, 1, "broken", ("first", 5, 2))])
        for word in WRITERS:
            house = woven({}, [word + ": put 5 1", "kept: put 5 51"], [2, 1, 2, 1])
            self.assertEqual(house.log()[1::2], [(2, 1, "wait", (2,)), (4, 1, "put", 5, 1)])

    def test_when_the_one_that_was_waited_for_is_broken_off(self):
        for word in WORDS:
            house = woven({}, [word + ": put 5 1", "kept: put 5 51; stop 0 1"], [2, 1, 2, 1])
            self.assertEqual(house.log()[1::2], [(2, 1, "wait", (2,)), (4, 1, "put", 5, 1)])

    def test_it_is_asked_ahead_of_the_hold(self):
        texts = ["make: let a 1 + 1; put 5 1", "kept: put 5 51", "kept: put 5 52"]
        house = woven({}, texts, [1, 2, 2, 3, 1])
        self.assertEqual(house.log()[-1], (5, 1, "broken", ("first", 5, 2)))

    def test_a_look_is_never_late(self):
        for word in WORDS:
            told = self.ends(word + ": let a 1 + 1; read a 5", "kept: put 5 51", [1, 2, 2, 1])
            self.assertEqual(told[0], "look", word)

    def test_keys_by_names(self):
        house = woven({}, ["watch: let k 2 + 3; put k 1", "kept: put 5 51"], [1, 2, 2, 1])
        self.assertEqual(house.reason(1), ("first", 5, 2))


class LookedTest(unittest.TestCase):
    def test_ahead_of_the_keep_and_of_one_broken_off(self):
        house = house_of({5: 50}, "kept: read a 5; put 5 1", "kept: read a 5; stop 0 1", "watch: read a 5")
        house.weave([1, 2])
        self.assertEqual([house.looked(number) for number in (1, 2, 3)], [[], [], []])
        house.weave([2, 1])
        self.assertEqual([house.looked(number) for number in (1, 2)], [[], []])
        house.weave([1])
        self.assertEqual(house.looked(1), [[(5, 0)]])

    def test_a_key_that_nobody_made(self):
        for word in WORDS:
            house = woven({5: 50}, [word + ": read a 5; sum a 1 9; sum a 9 1; read a 7"], [1] * 5)
            self.assertEqual(house.looked(1), [[], [], [], []], word)

    def test_the_start_and_a_maker(self):
        wanted = {"loose": [0, 2], "kept": [0, 2], "make": [0, 0], "watch": [0, 0]}
        for word, sources in wanted.items():
            for rows in [{5: 50}, {}]:
                house = woven(rows, [word + ": read a 5; read a 5", "kept: put 5 51"], [1, 2, 2, 1, 1])
                self.assertEqual(house.looked(1), [[(5, source)] for source in sources], word)

    def test_a_maker_at_each_level(self):
        for word in WORDS:
            house = woven({5: 50}, [word + ": read a 5", "kept: put 5 51"], [2, 2, 1, 1])
            self.assertEqual(house.looked(1), [[(5, 2)]], word)
            house = woven({5: 50}, [word + ": read a 5", "kept: take 5"], [2, 2, 1, 1])
            self.assertEqual(house.looked(1), [[(5, 2)]], word)

    def test_the_newest_maker_at_the_stand(self):
        texts = ["{}: read b 1; sum a 1 9", "kept: put 5 51", "kept: put 5 52; put 6 62"]
        for word in WORDS:
            house = woven({7: 70}, [text.format(word) for text in texts], [2, 2, 1, 3, 3, 3, 1, 1])
            late = [(5, 2), (6, 0)] if word in AT_BEGIN else [(5, 3), (6, 3)]
            self.assertEqual(house.looked(1), [[], late], word)

    def test_by_rising_keys(self):
        house = woven({}, ["kept: sum a -9 9", "kept: put 7 1; put -3 1; put 0 1; put 2 1"], [2] * 5 + [1, 1])
        self.assertEqual(house.looked(1), [[(-3, 2), (0, 2), (2, 2), (7, 2)]])

    def test_keys_made_by_the_time_of_asking(self):
        for word in ["loose", "kept", "make", "watch", "hold"]:
            house = woven({5: 50}, [word + ": sum a 1 9", "kept: put 5 51; put 6 61"], [1, 1, 2])
            self.assertEqual(house.looked(1), [[]], word)
            house.weave([2])
            self.assertEqual(house.looked(1), [[]], word)
            house.weave([2])
            self.assertEqual(house.looked(1), [[(5, 0), (6, 0)]], word)

    def test_keys_made_by_the_dealing_itself_behind_the_look(self):
        for word in WORDS:
            house = woven({5: 50}, [word + ": read a 5; sum a 1 9; put 5 51; take 6"], [1] * 5)
            self.assertEqual(house.looked(1), [[(5, 0)], [(5, 0), (6, 0)]], word)

    def test_keys_put_by_the_dealing_itself_ahead_of_the_look(self):
        for word in WORDS:
            house = woven({5: 50}, [word + ": put 5 51; sum a 1 9; take 6; sum a 1 9; put 7 7"], [1] * 6)
            self.assertEqual(house.looked(1), [[(6, 0), (7, 0)], [(7, 0)]], word)

    def test_a_draft_of_one_that_is_kept_later(self):
        house = woven({5: 50}, ["loose: read a 5", "kept: put 5 51"], [2, 1, 2, 1])
        self.assertEqual(house.looked(1), [[(5, 2)]])

    def test_a_draft_of_one_that_has_not_ended(self):
        house = woven({5: 50}, ["loose: read a 5", "kept: put 5 51"], [2, 1, 1])
        self.assertEqual(house.looked(1), [[(5, -1)]])
        house.weave([2])
        self.assertEqual(house.looked(1), [[(5, 2)]])

    def test_a_draft_of_one_that_is_broken_off(self):
        house = woven({5: 50}, ["loose: sum a 4 6", "kept: put 5 51; take 6; stop 0 1"], [2, 2, 1, 2, 1])
        self.assertEqual(house.looked(1), [[(5, -1), (6, -1)]])
        self.assertEqual(house.made(), [])

    def test_a_draft_that_is_put_again_behind_the_look(self):
        for again in ["put 5 52", "put 5 51", "take 5"]:
            house = woven({5: 50}, ["loose: read a 5; read a 5", "kept: put 5 51; " + again], [2, 1, 2, 1, 2, 1])
            self.assertEqual(house.looked(1), [[(5, -1)], [(5, 2)]], again)

    def test_a_draft_that_was_put_twice_ahead_of_the_look(self):
        house = woven({5: 50}, ["loose: read a 5", "kept: put 5 51; put 5 52"], [2, 2, 1, 2, 1])
        self.assertEqual(house.looked(1), [[(5, 2)]])

    def test_another_key_put_behind_the_look(self):
        house = woven({5: 50}, ["loose: sum a 1 9", "kept: put 5 51; put 6 61"], [2, 1, 2, 2, 1])
        self.assertEqual(house.looked(1), [[(5, 2), (6, 0)]])

    def test_a_draft_over_a_kept_make(self):
        texts = ["loose: read a 5", "kept: put 5 51", "kept: put 5 52"]
        house = woven({}, texts, [2, 2, 3, 1, 1])
        self.assertEqual(house.looked(1), [[(5, -1)]])
        house.weave([3])
        self.assertEqual(house.looked(1), [[(5, 3)]])

    def test_drafts_of_several(self):
        texts = ["loose: put 1 1; sum a 1 9", "hold: put 2 2", "watch: take 3", "make: put 4 4; stop 0 1", "kept: put 5 5"]
        house = woven({}, texts, [5, 5, 1, 2, 3, 4, 1, 2, 3, 4, 1])
        self.assertEqual(house.looked(1), [[(2, 2), (3, 3), (4, -1), (5, 5)]])

    def test_drafts_count_for_nothing_at_other_levels(self):
        for word in ["kept", "make", "watch"]:
            house = woven({}, [word + ": read a 5", "kept: put 5 51"], [2, 1, 1])
            self.assertEqual(house.looked(1), [[]], word)
            house.weave([2])
            self.assertEqual(house.looked(1), [[(5, 0)]], word)


if __name__ == "__main__":
    unittest.main()
