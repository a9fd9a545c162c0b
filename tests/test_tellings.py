"""Points 2, 91 and 92: rows, reasons, spots, edges, the judge's answers and ills, as texts."""

import copy
import inspect
import itertools
import random
import unittest

from skewhouse.errors import NoRow, SkewError
from skewhouse.histories import history
from skewhouse.ills import ills
from skewhouse.judge import judge
from skewhouse.spots import edges
from skewhouse.tellings import read_spots, show_edge, show_ill, show_row, show_spots, show_verdict, show_why
from tests.helper import WORDS, drawn_history, drawn_house, edge_text, ill_text, row_text, spots_text, verdict_text
from tests.helper import why_text, woven

HUGE = 10 ** 5000
HUGE_TEXT = "1" + "0" * 5000
MOST = 10 ** 30 - 1

# Rows, each with its text.
ROWS = [
    ((1, 2, "idle"), "1 2 idle"),
    ((3, 1, "look", 5, 5, ()), "3 1 look 5 5:"),
    ((3, 1, "look", 5, 5, ((5, 50),)), "3 1 look 5 5: 5=50"),
    ((3, 1, "look", 5, 5, ((5, 0),)), "3 1 look 5 5: 5=0"),
    ((3, 1, "look", -9, 9, ((-9, -1), (0, 0), (7, 12))), "3 1 look -9 9: -9=-1 0=0 7=12"),
    ((3, 1, "look", 9, -9, ()), "3 1 look 9 -9:"),
    ((4, 8, "put", 5, 7), "4 8 put 5 7"),
    ((4, 8, "put", -5, 0), "4 8 put -5 0"),
    ((4, 8, "put", 0, -7), "4 8 put 0 -7"),
    ((4, 8, "put", 5, None), "4 8 take 5"),
    ((4, 8, "put", -5, None), "4 8 take -5"),
    ((5, 1, "let", "z", 0), "5 1 let z 0"),
    ((5, 1, "let", "a", -33), "5 1 let a -33"),
    ((6, 1, "go", 0), "6 1 go 0"),
    ((6, 1, "go", 40), "6 1 go 40"),
    ((7, 3, "wait", (1,)), "7 3 wait 1"),
    ((7, 3, "wait", (1, 2, 8)), "7 3 wait 1 2 8"),
    ((7, 3, "wait", ()), "7 3 wait"),
    ((8, 2, "broken", ("own",)), "8 2 broken own"),
    ((8, 2, "broken", ("ring", (2, 1, 3))), "8 2 broken ring 2 1 3"),
    ((8, 2, "broken", ("first", -5, 2)), "8 2 broken first -5 2"),
    ((8, 2, "broken", ("edges", 1, 5, 2, -6, 3)), "8 2 broken edges 1 5 2 -6 3"),
    ((9, 4, "kept", ()), "9 4 kept:"),
    ((9, 4, "kept", ((5, 51),)), "9 4 kept: 5=51"),
    ((9, 4, "kept", ((5, None),)), "9 4 kept: 5=-"),
    ((9, 4, "kept", ((-6, None), (-5, -1), (0, 0), (1, None))), "9 4 kept: -6=- -5=-1 0=0 1=-"),
]

WHYS = [
    (None, "none"),
    (("own",), "own"),
    (("ring", (1, 2)), "ring 1 2"),
    (("ring", (8, 7, 6, 5, 4, 3, 2, 1)), "ring 8 7 6 5 4 3 2 1"),
    (("ring", (4,)), "ring 4"),
    (("first", 5, 2), "first 5 2"),
    (("first", -5, 2), "first -5 2"),
    (("first", 0, 0), "first 0 0"),
    (("edges", 1, 5, 2, 6, 3), "edges 1 5 2 6 3"),
    (("edges", 3, -5, 2, 0, 3), "edges 3 -5 2 0 3"),
]

SPOTS = [
    ([], "none"),
    ([(1, 0)], "1.0"),
    ([(2, 0), (1, 0), (1, 1)], "2.0 1.0 1.1"),
    ([(0, 0)], "0.0"),
    ([(8, 40), (8, 40)], "8.40 8.40"),
    ([(MOST, MOST)], "9" * 30 + "." + "9" * 30),
    ([(10, 100), (1000, 7)], "10.100 1000.7"),
]

# None of these texts tells a list of spots.
NO_SPOTS = [
    "", " ", "1", "1.", ".1", ".", "1 0", "1,0", "1:0", "1.0.0", "1..0", "1.0.", ".1.0", "None", "none ", " none",
    "nones", "NONE", "none none", "none 1.0", "1.0 none", "ok", "01.0", "1.00", "1.01", "00.0", "0.00", "+1.0", "1.+0",
    "-1.0", "1.-1", "-0.0", "0.-0", " 1.0", "1.0 ", "1.0  2.0", "1 .0", "1. 0", "1.0\n", "\n1.0", "1.0\n2.0",
    "1.0\t2.0", "1.0,2.0", "1.0;2.0", "1.0; 2.0", "1.02.0", "1.0 2", "1 2.0", "1.0 2.", "1.0 .2", "a.0", "1.a", "a",
    "1.0 a", "1.0 b.1", "1e1.0", "1_0.0", "0x1.0", "(1, 0)", "[]", "?.0", "-", "-.-", "1" * 31 + ".0", "1." + "1" * 31,
    "1" + "0" * 30 + ".0", "0." + "1" + "0" * 30, "1.0 2." + "9" * 31, "1.0 -2.0", "1.0 2.-1", "1.0 02.0", "1.0 2.00",
    "1.0 +2.0", "1" * 5000 + ".0", "-" + "1" * 30 + ".0",
]

EDGES = [
    (((1, 0), (1, 1), "own", None), "1.0 own 1.1"),
    (((1, 0), (2, 1), "saw", 5), "1.0 saw 5 2.1"),
    (((1, 40), (2, 0), "unseen", -5), "1.40 unseen -5 2.0"),
    (((8, 0), (7, 0), "over", 0), "8.0 over 0 7.0"),
    (((0, 0), (0, 0), "over", 12), "0.0 over 12 0.0"),
]

VERDICTS = [
    (("unkept", 1, 0, 5), "unkept 1 0 5"),
    (("unkept", 8, 39, -5), "unkept 8 39 -5"),
    (("order", []), "order none"),
    (("order", [(1, 0)]), "order 1.0"),
    (("order", [(2, 0), (1, 0), (1, 1)]), "order 2.0 1.0 1.1"),
    (("ring", [EDGES[2][0], EDGES[1][0]]), "ring 1.40 unseen -5 2.0; 1.0 saw 5 2.1"),
    (("ring", [EDGES[0][0]]), "ring 1.0 own 1.1"),
    (("ring", [edge for edge, text in EDGES]), "ring " + "; ".join(text for edge, text in EDGES)),
]

ILLS = [
    (("lost", 2, 1, 5), "lost 2 1 5"),
    (("lost", 1, 0, -5), "lost 1 0 -5"),
    (("midway", 1, 5), "midway 1 5"),
    (("midway", 8, -5), "midway 8 -5"),
    (("skewed", 1, 2, 5, 6), "skewed 1 2 5 6"),
    (("skewed", 1, 2, 0, -6), "skewed 1 2 0 -6"),
    (("unkept", 1, 0), "unkept 1 0"),
    (("unkept", 3, -77), "unkept 3 -77"),
]

# Each with the rows that it shows.
SHOWN = [(show_row, ROWS), (show_why, WHYS), (show_spots, SPOTS), (show_edge, EDGES), (show_verdict, VERDICTS),
         (show_ill, ILLS)]


def with_sevens(thing, number):
    """The same thing with a number in the place of each 7, in tuples and lists too."""
    if isinstance(thing, (tuple, list)):
        return thing.__class__(with_sevens(part, number) for part in thing)
    return number if thing == 7 else thing


# A form of each kind, with a 7 at each place where a number stands.
SEVENS = [
    (show_row, (7, 7, "idle")),
    (show_row, (7, 7, "look", 7, 7, ((7, 7), (7, 7)))),
    (show_row, (7, 7, "put", 7, 7)),
    (show_row, (7, 7, "put", 7, None)),
    (show_row, (7, 7, "let", "q", 7)),
    (show_row, (7, 7, "go", 7)),
    (show_row, (7, 7, "wait", (7, 7))),
    (show_row, (7, 7, "broken", ("ring", (7, 7)))),
    (show_row, (7, 7, "broken", ("first", 7, 7))),
    (show_row, (7, 7, "broken", ("edges", 7, 7, 7, 7, 7))),
    (show_row, (7, 7, "kept", ((7, 7), (7, None)))),
    (show_why, ("ring", (7, 7, 7))),
    (show_why, ("first", 7, 7)),
    (show_why, ("edges", 7, 7, 7, 7, 7)),
    (show_spots, [(7, 7), (7, 7)]),
    (show_edge, ((7, 7), (7, 7), "saw", 7)),
    (show_edge, ((7, 7), (7, 7), "own", None)),
    (show_verdict, ("unkept", 7, 7, 7)),
    (show_verdict, ("order", [(7, 7), (7, 7)])),
    (show_verdict, ("ring", [((7, 7), (7, 7), "unseen", 7), ((7, 7), (7, 7), "own", None)])),
    (show_ill, ("lost", 7, 7, 7)),
    (show_ill, ("midway", 7, 7)),
    (show_ill, ("skewed", 7, 7, 7, 7)),
    (show_ill, ("unkept", 7, 7)),
]


def is_plain(text):
    return text.isdigit() and text == str(int(text))


class TextsTest(unittest.TestCase):
    def test_examples(self):
        for show, pairs in SHOWN:
            for thing, text in pairs:
                with self.subTest(text):
                    self.assertEqual(show(thing), text)

    def test_numbers_of_many_figures_and_below_0(self):
        for show, form in SEVENS:
            pattern = show(form)
            for number, figures in [(HUGE, HUGE_TEXT), (-HUGE, "-" + HUGE_TEXT), (MOST + 1, "1" + "0" * 30), (0, "0"),
                                    (10 ** 64, "1" + "0" * 64), (10 ** 64 - 1, "9" * 64),
                                    (-(10 ** 64), "-1" + "0" * 64),
                                    (-1, "-1"), (10 ** 129 + 5, "1" + "0" * 128 + "5")]:
                self.assertTrue(show(with_sevens(form, number)) == pattern.replace("7", figures), form)

    def test_what_is_shown_is_not_changed(self):
        for show, pairs in SHOWN:
            for thing, text in pairs:
                before = copy.deepcopy(thing)
                self.assertEqual((show(thing), show(thing)), (text, text))
                self.assertEqual(thing, before)

    def test_kinds(self):
        for show, pairs in SHOWN:
            for thing, text in pairs:
                self.assertIs(show(thing).__class__, str)

    def test_arguments(self):
        wanted = {show_row: "row", show_why: "why", show_spots: "order", read_spots: "text", show_edge: "edge",
                  show_verdict: "answer", show_ill: "ill"}
        for function, name in wanted.items():
            self.assertEqual(list(inspect.signature(function).parameters), [name])
        self.assertEqual((show_why(why=None), show_spots(order=[]), read_spots(text="none")), ("none", "none", []))
        self.assertEqual((show_row(row=(1, 2, "idle")), show_ill(ill=("midway", 1, 2))), ("1 2 idle", "midway 1 2"))
        self.assertEqual(show_verdict(answer=("order", [])), "order none")
        self.assertEqual(show_edge(edge=((1, 0), (1, 1), "own", None)), "1.0 own 1.1")


class ReadSpotsTest(unittest.TestCase):
    def test_read(self):
        for order, text in SPOTS:
            self.assertEqual(read_spots(text), order, text)

    def test_kinds(self):
        read = read_spots("2.0 1.0")
        self.assertIsInstance(read, list)
        self.assertIsInstance(read[0], tuple)
        self.assertEqual({part.__class__ for spot in read for part in spot}, {int})

    def test_many(self):
        order = [(number, place) for number in range(1, 9) for place in range(41)]
        self.assertEqual(read_spots(show_spots(order)), order)

    def test_refused(self):
        for text in NO_SPOTS:
            with self.subTest(text):
                with self.assertRaises(SkewError) as caught:
                    read_spots(text)
                self.assertIs(caught.exception.__class__, NoRow)

    def test_shown_but_not_read(self):
        for order in [[(-1, 0)], [(0, -1)], [(MOST + 1, 0)], [(1, 0), (0, MOST + 1)], [(HUGE, HUGE)]]:
            self.assertRaises(NoRow, read_spots, show_spots(order))

    def test_thirty_figures(self):
        for number in [10 ** 29, MOST, MOST - 1]:
            self.assertEqual(read_spots(f"{number}.0 0.{number}"), [(number, 0), (0, number)])

    def test_the_list_is_the_askers_own(self):
        for text in ["none", "1.0 2.1"]:
            before = list(read_spots(text))
            read_spots(text).append((9, 9))
            read_spots(text).clear()
            self.assertEqual(read_spots(text), before)

    def test_every_short_text(self):
        for many in range(5):
            for signs in itertools.product(". 01-n", repeat=many):
                self.read_or_refused("".join(signs))

    def test_texts_with_a_sign_changed(self):
        refused = 0
        for seed in range(4000):
            chance = random.Random(seed)
            order = [(chance.randint(0, 12), chance.randint(0, 12)) for turn in range(chance.randint(1, 4))]
            text, sign = show_spots(order), chance.choice(" .0129-+a\n")
            at = chance.randint(0, len(text))
            text = chance.choice([text[:at] + text[at + 1:], text[:at] + sign + text[at:],
                                  text[:at] + sign + text[at + 1:]])
            refused += self.read_or_refused(text)
        self.assertGreater(refused, 500)
        self.assertLess(refused, 3500)

    def read_or_refused(self, text):
        """By a second account of point 92; whether it is refused."""
        wanted = [tuple(part.split(".")) for part in text.split(" ")]
        if text == "none":
            wanted = []
        plain = all(len(spot) == 2 and all(is_plain(each) for each in spot) for spot in wanted)
        if plain:
            self.assertEqual(read_spots(text), [(int(one), int(other)) for one, other in wanted], text)
        else:
            self.assertRaises(NoRow, read_spots, text)
        return not plain


class HousesTest(unittest.TestCase):
    def test_the_rows_of_houses(self):
        kinds = set()
        for seed in range(600):
            house = drawn_house(seed)
            for row in house.log():
                self.assertEqual(show_row(row), row_text(row))
                kinds.add(row[2] + (row[3][0] if row[2] == "broken" else ""))
                if row[2] == "broken":
                    self.assertEqual(show_why(house.reason(row[1])), why_text(row[3]))
            self.assertEqual(show_spots(house.order()), spots_text(house.order()))
            self.assertEqual(read_spots(show_spots(house.order())), house.order())
        self.assertEqual(len(kinds), 11, kinds)

    def test_a_reason_of_none(self):
        house = woven({}, ["kept:"], [1])
        self.assertEqual(show_why(house.reason(1)), "none")

    def test_histories(self):
        for seed in range(400):
            for past in [drawn_history(random.Random(seed), (-1,) if seed % 2 else ()), history(drawn_house(seed))]:
                for edge in edges(past):
                    self.assertEqual(show_edge(edge), edge_text(edge))
                for ill in ills(past):
                    self.assertEqual(show_ill(ill), ill_text(ill))
                for word in WORDS + [None]:
                    self.assertEqual(show_verdict(judge(past, word)), verdict_text(judge(past, word)))

    def test_rows_of_a_house_of_many_figures(self):
        house = woven({5: HUGE, -HUGE: 1}, ["kept: read a 5; let a a + a; put a a; take 5"], [1] * 5)
        double = "2" + "0" * 5000
        wanted = [f"1 1 look 5 5: 5={HUGE_TEXT}", f"2 1 let a {double}", f"3 1 put {double} {double}", "4 1 take 5",
                  f"5 1 kept: 5=- {double}={double}"]
        self.assertTrue([show_row(row) for row in house.log()] == wanted)


if __name__ == "__main__":
    unittest.main()
