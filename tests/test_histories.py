"""Points 2, 3 and 61 to 64: histories of houses, their texts, and what is read and what is refused."""

import copy
import inspect
import random
import unittest

from skewhouse.errors import NoHistory, SkewError
from skewhouse.histories import history, read_history, show_history
from skewhouse.house import House
from tests.helper import WORDS, drawn_history, drawn_house, house_of, second_reading, woven

BIG = 10 ** 30 - 1


class OfAHouseTest(unittest.TestCase):
    def test_none_kept(self):
        self.assertEqual(history(House({}, [])), ([], []))
        self.assertEqual(history(house_of({5: 50}, "kept:", "watch: put 5 5")), ([], []))
        house = woven({5: 50}, ["kept: read a 5; put 5 5", "watch: put 6 6; stop 0 1"], [1, 1, 2, 2])
        self.assertEqual(history(house), ([], []))

    def test_some_kept(self):
        texts = ["kept: read a 5; put 5 51", "watch: sum a 1 9", "hold: stop 0 1", "loose: read a 5; put 6 6", "make:"]
        house = woven({5: 50}, texts, [1, 1, 4, 1, 2, 2, 3, 5])
        deals = [(1, "kept", [[(5, 0)]]), (2, "watch", [[(5, 1)]]), (5, "make", [])]
        self.assertEqual(history(house), (deals, [(5, [1])]))
        house.weave([4, 4])
        deals = [(1, "kept", [[(5, 0)]]), (2, "watch", [[(5, 1), (6, 0)]]), (4, "loose", [[(5, 1)]]), (5, "make", [])]
        self.assertEqual(history(house), (deals, [(5, [1]), (6, [4])]))

    def test_numbers_rise_whoever_was_kept_first(self):
        house = woven({}, ["kept:", "kept:", "kept:"], [3, 1, 2])
        self.assertEqual(history(house), ([(1, "kept", []), (2, "kept", []), (3, "kept", [])], []))

    def test_a_read_of_what_is_never_kept(self):
        house = woven({}, ["loose: read a 5", "kept: put 5 51; stop 0 1"], [2, 1, 2, 1])
        self.assertEqual(history(house), ([(1, "loose", [[(5, -1)]])], []))
        self.assertEqual(show_history(history(house)), "1 loose: 5<?")

    def test_kinds(self):
        past = history(woven({5: 50}, ["kept: read a 5; put 5 51"], [1, 1, 1]))
        self.assertIsInstance(past, tuple)
        self.assertIsInstance(past[0], list)
        self.assertIsInstance(past[1], list)
        self.assertIsInstance(past[0][0], tuple)
        self.assertIsInstance(past[0][0][2], list)
        self.assertIsInstance(past[0][0][2][0], list)
        self.assertIsInstance(past[0][0][2][0][0], tuple)
        self.assertIsInstance(past[1][0][1], list)

    def test_its_lists_are_the_askers_own(self):
        house = woven({5: 50}, ["kept: read a 5; put 5 51"], [1, 1, 1])
        before = copy.deepcopy(history(house))
        past = history(house)
        past[1][0][1].append(7)
        past[1].append((9, [9]))
        past[0][0][2][0].clear()
        past[0][0][2].append([])
        past[0].clear()
        self.assertEqual(history(house), before)
        self.assertEqual((house.log()[0], house.looked(1)), ((1, 1, "look", 5, 5, ((5, 50),)), [[(5, 0)]]))

    def test_it_changes_with_the_house_and_the_house_not_with_it(self):
        house = woven({}, ["kept: put 5 5", "kept: read a 5"], [1, 1])
        past, log = history(house), house.log()
        house.weave([2, 2])
        self.assertEqual(past, ([(1, "kept", [])], [(5, [1])]))
        self.assertEqual(history(house)[0][1], (2, "kept", [[(5, 1)]]))
        self.assertEqual(house.log()[:2], log)

    def test_arguments(self):
        self.assertEqual(list(inspect.signature(history).parameters), ["house"])
        self.assertEqual(list(inspect.signature(show_history).parameters), ["past"])
        self.assertEqual(list(inspect.signature(read_history).parameters), ["text"])
        self.assertEqual(history(house=House({}, [])), ([], []))
        self.assertEqual((show_history(past=([], [])), read_history(text="")), ("", ([], [])))


# Texts, each with the history that it tells.
TEXTS = [
    ("", ([], [])),
    ("1 loose:", ([(1, "loose", [])], [])),
    ("8 hold: -", ([(8, "hold", [[]])], [])),
    ("2 make: -; -", ([(2, "make", [[], []])], [])),
    ("2 kept: 5<0", ([(2, "kept", [[(5, 0)]])], [])),
    ("2 kept: 5<?", ([(2, "kept", [[(5, -1)]])], [])),
    ("2 kept: -5<? 0<0 17<?; 3<0", ([(2, "kept", [[(-5, -1), (0, 0), (17, -1)], [(3, 0)]])], [])),
    ("1 watch: 5<0 7<2; -; 6<?\n2 hold:\nmake 7: 2 1",
     ([(1, "watch", [[(5, 0), (7, 2)], [], [(6, -1)]]), (2, "hold", [])], [(7, [2, 1])])),
    ("3 make:\n4 loose: 5<3\nmake -2: 4\nmake 5: 3",
     ([(3, "make", []), (4, "loose", [[(5, 3)]])], [(-2, [4]), (5, [3])])),
    ("1 kept: 5<0\nmake 5: 1", ([(1, "kept", [[(5, 0)]])], [(5, [1])])),
    (f"1 kept: -{BIG}<0 {BIG}<?", ([(1, "kept", [[(-BIG, 0), (BIG, -1)]])], [])),
]


class TextsTest(unittest.TestCase):
    def test_shown_and_read(self):
        for text, past in TEXTS:
            with self.subTest(text):
                self.assertEqual(show_history(past), text)
                self.assertEqual(read_history(text), past)

    def test_each_level(self):
        for word in WORDS:
            past = ([(1, word, [[(5, 0)]])], [])
            self.assertEqual(show_history(past), f"1 {word}: 5<0")
            self.assertEqual(read_history(f"1 {word}: 5<0"), past)

    def test_all_eight_dealings(self):
        past = ([(number, "hold", []) for number in range(1, 9)], [(0, [8, 7, 6, 5, 4, 3, 2, 1])])
        text = "\n".join(f"{number} hold:" for number in range(1, 9)) + "\nmake 0: 8 7 6 5 4 3 2 1"
        self.assertEqual((show_history(past), read_history(text)), (text, past))

    def test_at_the_bounds(self):
        look = [(key, 0) for key in range(40)]
        past = ([(1, "kept", [look]), (2, "kept", [[]] * 40)], [(key, [2, 1]) for key in range(40, 80)])
        self.assertEqual(read_history(show_history(past)), past)

    def test_drawn_by_a_seed(self):
        for seed in range(500):
            past = drawn_history(random.Random(seed))
            self.assertEqual(read_history(show_history(past)), past, seed)
            self.assertEqual(second_reading(show_history(past)), past, seed)

    def test_numbers_of_more_figures_shown(self):
        for key, figures in [(10 ** 30, "1" + "0" * 30), (10 ** 64, "1" + "0" * 64), (10 ** 5000, "1" + "0" * 5000),
                             (10 ** 130 + 10 ** 64 + 7, "1" + "0" * 65 + "1" + "0" * 63 + "7"),
                             (10 ** 64 - 1, "9" * 64), (123456789 * 10 ** 4990, "123456789" + "0" * 4990)]:
            for sign in [1, -1]:
                past = ([(1, "loose", [[(sign * key, -1)]]), (2, "make", [[(sign * key, 1)]])], [(sign * key, [1])])
                written = "-" * (sign < 0) + figures
                text = f"1 loose: {written}<?\n2 make: {written}<1\nmake {written}: 1"
                self.assertTrue(show_history(past) == text)

    def test_numbers_of_a_house_of_more_figures(self):
        house = woven({}, [f"kept: let a {BIG} + 1; read b a; put a a"], [1] * 4)
        self.assertEqual(show_history(history(house)), f"1 kept: {BIG + 1}<0\nmake {BIG + 1}: 1")

    def test_a_list_that_is_read_is_the_askers_own(self):
        text = TEXTS[7][0]
        read_history(text)[0][0][2][0].clear()
        read_history(text)[1][0][1].append(5)
        read_history(text)[0].clear()
        read_history("")[0].append(1)
        self.assertEqual((read_history(text), read_history("")), (TEXTS[7][1], ([], [])))

    def test_what_is_shown_is_not_changed(self):
        past = copy.deepcopy(TEXTS[7][1])
        show_history(past)
        self.assertEqual(past, TEXTS[7][1])


# Each of these texts tells no history; in each row one thing is wrong.
NONE = {
    "another word": ["1 wotch:", "1 Watch:", "1 read: 5<0", "1 :", "1 makes:", "1 loose kept:", "make:", "1 make:\nmade 5: 1"],
    "a number twice": ["1 kept:\n1 kept:", "1 kept: 5<0\n1 watch:", "3 hold:\n4 hold:\n4 hold:"],
    "not rising": ["2 kept:\n1 kept:", "1 kept:\n5 hold:\n3 hold:"],
    "0, 9 and others": ["0 kept:", "9 kept:", "10 kept:", "-1 kept:", "1 kept:\n9 kept:", f"{BIG} kept:"],
    "a source that is no maker": [
        "1 kept: 5<2", "1 kept: 5<2\n2 kept:", "1 kept: 5<2\n2 kept:\nmake 6: 2", "1 kept: 5<3\n2 kept:\nmake 5: 2",
        "1 kept: 5<9", "1 kept: 5<-2", "2 kept: 5<0; 5<1\n3 kept:\nmake 5: 3",
    ],
    "the dealing itself as source": ["1 kept: 5<1\nmake 5: 1", "1 kept: 5<1", "1 kept:\n2 kept: 5<2\nmake 5: 1 2"],
    "-1 written": ["1 kept: 5<-1", "1 kept: 5<? 6<-1", "1 kept: 5<-1\nmake 5: 1"],
    "a key twice or not rising": [
        "1 kept: 5<0 5<0", "1 kept: 5<0 5<?", "1 kept: 6<0 5<0", "1 kept: -5<0 -6<0", "1 kept: 5<0; 1<0 9<0 3<0",
        "1 kept:\nmake 5: 1\nmake 5: 1", "1 kept:\nmake 5: 1\nmake 4: 1", "1 kept:\n2 kept:\nmake 5: 1\nmake 5: 2",
    ],
    "a maker that is none of the deals": [
        "make 5: 1", "1 kept:\nmake 5: 2", "1 kept:\nmake 5: 1 2", "1 kept:\nmake 5: 0", "1 kept:\nmake 5: -1",
        "1 kept:\nmake 5: 9", "1 kept:\n2 kept:\nmake 5: 2 3 1",
    ],
    "a maker twice": ["1 kept:\nmake 5: 1 1", "1 kept:\n2 kept:\nmake 5: 1 2 1"],
    "a make without makers": ["1 kept:\nmake 5:", "1 kept:\nmake 5: ", "make 5:", "1 kept:\nmake 5: -", "1 kept:\nmake 5: ?"],
    "deals behind makes": ["make 5: 1\n1 kept:", "1 kept:\nmake 5: 1\n2 kept:", "1 kept:\nmake 5: 1\n2 kept:\nmake 6: 2"],
    "blanks too many or missing": [
        " 1 kept:", "1  kept:", "1 kept :", "1 kept: ", "1 kept:  -", "1 kept: - ", "1kept:", "1 kept:-", "1 kept:5<0",
        "1 kept: 5 <0", "1 kept: 5< 0", "1 kept: 5<0  6<0", "1 kept: 5<06<0", "1 kept: -;-", "1 kept: -;  -",
        "1 kept: - ; -", "1 kept: 5<0 ; 6<0", "1 kept:\nmake  5: 1", "1 kept:\nmake 5:  1", "1 kept:\nmake 5:1",
        "1 kept:\nmake 5: 1 ", "1 kept:\nmake5: 1", "1 kept:\n make 5: 1", "1 kept:\nmake 5 : 1", " ", "-",
        "1 kept:\n2 kept:\nmake 5: 1  2", "1 kept:\n2 kept:\nmake 5: 12",
    ],
    "line feeds too many or missing": [
        "\n", "1 kept:\n", "\n1 kept:", "1 kept:\n\n2 kept:", "1 kept:2 kept:", "1 kept: 2 kept:", "1 kept:\nmake 5: 1\n",
        "1 kept:\n\nmake 5: 1", "1 kept: make 5: 1", "1 kept:make 5: 1", "1 kept:\nmake 5: 1make 6: 1",
        "1 kept: -\n; -", "1 kept: 5<0\n6<0", "1 kept:\n-", "1\nkept:",
    ],
    "signs too many or missing": [
        "1 kept", "1 kept::", "1 kept: :", "1 kept: -;", "1 kept: ; -", "1 kept: -; ", "1 kept: ;", "1 kept: 5", "1 kept: 5<",
        "1 kept: <0", "1 kept: <", "1 kept: 5<0<0", "1 kept: 5<<0", "1 kept: ?<0", "1 kept: 5<??", "1 kept: - -",
        "1 kept: - 5<0", "1 kept: 5<0 -", "1 kept: --", "1 kept: 5<0,6<0", "1 kept: 5=0", "1 kept: 5>0", "kept:", "1:", "1",
        "1 kept:\nmake 5", "1 kept:\nmake 5 1", "1 kept:\nmake: 1", "1 kept:\nmake", "1 kept:\nmake 5 6: 1",
        "1 kept:\nmake 5:: 1", "1 kept:\nmake 5: 1; 1", "1 kept:\nmake 5: 1:", "1 2 kept:", "1 kept 2:", "kept 1:", "none",
        "1 kept:\nMake 5: 1", "1 kept:\nmaker 5: 1", "1 kept:\nmakex 5: 1", "1 kept: a<0", "1 kept: 5<a", "a kept:",
    ],
    "numbers that are not written so": [
        "01 kept:", "+1 kept:", "1.0 kept:", "1 kept: 05<0", "1 kept: +5<0", "1 kept: -0<0", "1 kept: 5<00", "1 kept: 5<-0",
        "1 kept: --5<0", "1 kept: 1_0<0", "1 kept: 5-<0", "1 kept: 5<01\nmake 5: 2", "1 kept:\nmake 05: 1",
        "1 kept:\nmake 5: 01", "1 kept:\nmake -0: 1", "1 kept:\nmake +5: 1", "1 kept:\nmake 5: +1", "1 kept: - 5<0",
        "1 kept:\nmake 5: 1.", "1 kept: 0x5<0", "1 kept:\t5<0", "1 kept: 5<0\t",
    ],
}


class RefusedTest(unittest.TestCase):
    def test_each_thing_that_makes_a_text_no_history(self):
        for why, texts in NONE.items():
            for text in texts:
                with self.subTest(why + ": " + text):
                    self.assertRaises(NoHistory, read_history, text)
                    self.assertIsNone(second_reading(text))

    def test_more_figures_than_are_read(self):
        past = ([(1, "kept", [[(10 ** 30, 0)]])], [])
        self.assertRaises(NoHistory, read_history, show_history(past))

    def test_the_class_of_the_refusal(self):
        with self.assertRaises(SkewError) as caught:
            read_history("0 kept:")
        self.assertEqual(caught.exception.__class__, NoHistory)
        with self.assertRaises(SkewError) as caught:
            read_history("x kept:")
        self.assertEqual(caught.exception.__class__, NoHistory)

    def test_texts_with_a_sign_changed(self):
        refused = read = 0
        signs = "\n 0123459:;<?-amkel+"
        for seed in range(6000):
            chance = random.Random(seed)
            text = show_history(drawn_history(chance))
            at, sign = chance.randint(0, len(text)), chance.choice(signs)
            changed = chance.choice([text[:at] + text[at + 1:], text[:at] + sign + text[at:], text[:at] + sign + text[at + 1:]])
            wanted = second_reading(changed)
            if wanted is None:
                self.assertRaises(NoHistory, read_history, changed)
                refused += 1
            else:
                self.assertEqual(read_history(changed), wanted, changed)
                self.assertEqual(show_history(wanted), changed)
                read += 1
        self.assertGreater(refused, 2000)
        self.assertGreater(read, 300)

    def test_texts_with_rows_changed(self):
        for seed in range(2000):
            chance = random.Random(seed)
            rows = show_history(drawn_history(chance)).split("\n")
            at, to = chance.randrange(len(rows)), chance.randrange(len(rows))
            changed = chance.choice([rows[:at] + rows[at + 1:], rows[:at] + [rows[to]] + rows[at:], rows[::-1]])
            wanted = second_reading("\n".join(changed))
            if wanted is None:
                self.assertRaises(NoHistory, read_history, "\n".join(changed))
            else:
                self.assertEqual(read_history("\n".join(changed)), wanted)

    def test_houses_drawn_by_a_seed(self):
        for seed in range(300):
            text = show_history(history(drawn_house(seed)))
            self.assertEqual(second_reading(text), read_history(text), seed)


if __name__ == "__main__":
    unittest.main()
