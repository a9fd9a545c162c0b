"""Points 2 and 3, and the interface, over all modules: what is handed in and given, and numbers of many figures."""

import copy
import importlib
import inspect
import unittest

from skewhouse.deeds import asked, following, let_of, read_deed, show_deed, told, under
from skewhouse.desk import Desk
from skewhouse.errors import Broken, NoDealing, SkewError, Waits
from skewhouse.graphs import least_ring, order_of
from skewhouse.histories import history, read_history, show_history
from skewhouse.holds import Holds
from skewhouse.house import House
from skewhouse.ills import ills, unlet
from skewhouse.judge import judge, unkept
from skewhouse.levels import level_of
from skewhouse.plays import allowed
from skewhouse.programs import read_program, show_program
from skewhouse.rings import gives_way, ring
from skewhouse.shelf import Shelf
from skewhouse.spans import Span, closing, early, let_in, older, stand_of
from skewhouse.spots import edges, spots
from skewhouse.stretches import inside, laid, meet
from skewhouse.tellings import read_spots, show_edge, show_ill, show_row, show_spots, show_verdict, show_why
from skewhouse.weavings import first_weaving, how_many, weavings
from skewhouse.words import is_letter, is_level, is_whole, number_of, operand_of, worth
from tests.helper import WORDS, programs_of

# The interface: of each module its functions and classes, each with its arguments, and of a class its methods.
FUNCTIONS = {
    "words": {"is_whole": "thing", "number_of": "text", "is_letter": "text", "operand_of": "text",
              "worth": "operand names",
              "is_level": "word"},
    "deeds": {"read_deed": "text", "show_deed": "deed", "asked": "deed names", "told": "deed rows",
              "let_of": "deed names",
              "under": "deed names", "following": "deed place names many"},
    "programs": {"read_program": "text", "show_program": "program"},
    "stretches": {"inside": "key low high", "meet": "low high other_low other_high", "laid": "rows drafts low high"},
    "rings": {"ring": "waits start", "gives_way": "chain begins"},
    "spans": {"older": "one other", "closing": "kept new", "let_in": "kept new", "early": "span kept",
              "stand_of": "span kept"},
    "levels": {"level_of": "word"},
    "histories": {"history": "house", "show_history": "past", "read_history": "text"},
    "plays": {"allowed": "past order word"},
    "spots": {"spots": "history word", "edges": "history word"},
    "graphs": {"order_of": "nodes pairs", "least_ring": "nodes pairs"},
    "judge": {"unkept": "history word", "judge": "history word"},
    "weavings": {"how_many": "counts", "weavings": "counts", "first_weaving": "rows programs wish"},
    "ills": {"ills": "past", "unlet": "past"},
    "tellings": {"show_row": "row", "show_why": "why", "show_spots": "order", "read_spots": "text", "show_edge": "edge",
                 "show_verdict": "answer", "show_ill": "ill"},
}
LEVEL = {"word": "", "stand": "begin now", "late": "begin stamp", "unkept": "", "holds_asks": "", "watches": "",
         "spots": "looks",
         "look_spot": "place", "first_spot": "looks", "stamps": "begin stands end early"}
CLASSES = {
    "shelf": {"Shelf": ("rows", {"put": "stamp dealing drafts", "make": "key stamp", "newest": "key",
                                 "rows": "low high stamp",
                                 "there": "stamp", "touched": "low high", "makers": "key"})},
    "holds": {"Holds": ("", {"against": "dealing low high own", "take": "dealing low high own", "free": "dealing",
                             "held": "dealing"})},
    "spans": {"Span": ("number watched begin end looks puts", {})},
    "levels": {name: ("", LEVEL) for name in ["Loose", "Kept", "Make", "Watch", "Hold"]},
    "house": {"House": ("rows programs", {"step": "number", "weave": "numbers", "rest": "", "log": "", "rows": "",
                                          "state": "number",
                                          "reason": "number", "level_word": "number", "looked": "number", "made": "",
                                          "order": ""})},
    "desk": {"Desk": ("", {"say": "row"})},
}
BASES = {"Loose": "object", "Kept": "Loose", "Make": "Kept", "Watch": "Make", "Hold": "Kept"}
ERRORS = "NoNumber NoDeed NoProgram NoLevel NoDealing NoHistory TooMany NoRow Waits Broken".split()

TEXT = "1 kept: 5<0 6<?; 5<2\n2 make: 6<0\n3 watch: 7<1\nmake 5: 2 1\nmake 6: 1\nmake 7: 1"
DEED = ("sum", "z", "a", 9)
PROGRAMS = ["kept: read a 5; put 6 a", "watch: put 5 1"]


def names_of(function):
    return " ".join(name for name in inspect.signature(function).parameters if name != "self")


def spans_of_three():
    return [Span(3, False, 4, 8, [], [6]), Span(2, True, 5, 10, [(5, 6, 6, ())], [5]),
            Span(1, False, 3, 12, [(3, 5, 5, ())], [])]


# Of each function what is handed in, made anew at each call.
CALLS = [
    (is_whole, lambda: [5]),
    (number_of, lambda: ["-50"]),
    (is_letter, lambda: ["q"]),
    (operand_of, lambda: ["q"]),
    (worth, lambda: ["a", {"a": 5, "b": 6}]),
    (is_level, lambda: ["hold"]),
    (read_deed, lambda: ["let z a - 5"]),
    (show_deed, lambda: [DEED]),
    (asked, lambda: [DEED, {"a": 5}]),
    (told, lambda: [DEED, [(5, 50), (6, -1)]]),
    (let_of, lambda: [("let", "a", "b", "+", 5), {"b": 7}]),
    (under, lambda: [("stop", "a", "b"), {"b": 7}]),
    (following, lambda: [("skip", "a", "b", 3), 1, {"b": 7}, 9]),
    (read_program, lambda: ["hold: read a 5; put 5 a"]),
    (show_program, lambda: [("hold", [("read", "a", 5), ("put", 5, "a")])]),
    (inside, lambda: [5, 1, 9]),
    (meet, lambda: [1, 5, 5, 9]),
    (laid, lambda: [[(1, 10), (5, 50)], {5: None, 7: 70}, 0, 9]),
    (ring, lambda: [{1: [2, 3], 2: [1], 3: [1]}, 1]),
    (gives_way, lambda: [[1, 2], {1: 4, 2: 9, 3: 10}]),
    (history, lambda: [woven_house()]),
    (show_history, lambda: [read_history(TEXT)]),
    (read_history, lambda: [TEXT]),
    (allowed, lambda: [read_history(TEXT), [(3, 0), (1, 0)], "hold"]),
    (spots, lambda: [read_history(TEXT)]),
    (edges, lambda: [read_history(TEXT), "kept"]),
    (order_of, lambda: [[(3, 0), (1, 0), (2, 0)], [((2, 0), (1, 0))]]),
    (least_ring, lambda: [[(3, 0), (1, 0), (2, 0)], [((2, 0), (1, 0)), ((1, 0), (2, 0))]]),
    (unkept, lambda: [read_history(TEXT)]),
    (judge, lambda: [read_history(TEXT), "loose"]),
    (judge, lambda: [read_history(TEXT.replace("?", "0"))]),
    (how_many, lambda: [[2, 0, 1]]),
    (weavings, lambda: [[2, 0, 1]]),
    (first_weaving, lambda: [{5: 50}, programs_of(*PROGRAMS), lambda house: house.looked(1) != [[(5, 0)]]]),
    (ills, lambda: [read_history(TEXT)]),
    (unlet, lambda: [read_history(TEXT)]),
    (show_row, lambda: [(1, 2, "look", 5, 9, ((5, 50), (7, 70)))]),
    (show_why, lambda: [("ring", (1, 2))]),
    (show_spots, lambda: [[(1, 0), (2, 0)]]),
    (read_spots, lambda: ["1.0 2.0"]),
    (show_edge, lambda: [((1, 0), (2, 0), "saw", 5)]),
    (show_verdict, lambda: [("ring", [((1, 0), (2, 0), "saw", 5), ((2, 0), (1, 0), "over", 6)])]),
    (show_ill, lambda: [("lost", 2, 1, 5)]),
]


def woven_house():
    house = House({5: 50}, programs_of(*PROGRAMS))
    house.weave([1, 2, 2, 1, 1])
    return house


def spoil(thing):
    """Changes every list and dict of the thing, within others too."""
    if isinstance(thing, (list, tuple)):
        for part in thing:
            spoil(part)
    if isinstance(thing, dict):
        for part in thing.values():
            spoil(part)
        thing.clear()
    if isinstance(thing, list):
        thing.reverse()
        thing.append("spoilt")


class InterfaceTest(unittest.TestCase):
    def test_functions(self):
        for module, functions in FUNCTIONS.items():
            for name, arguments in functions.items():
                found = getattr(importlib.import_module("skewhouse." + module), name)
                self.assertEqual(names_of(found), arguments, name)

    def test_word_may_be_left_out(self):
        for function in [allowed, spots, edges, unkept, judge]:
            self.assertIsNone(inspect.signature(function).parameters["word"].default)

    def test_classes(self):
        for module, classes in CLASSES.items():
            for name, (arguments, methods) in classes.items():
                found = getattr(importlib.import_module("skewhouse." + module), name)
                self.assertEqual(names_of(found) if arguments else "", arguments, name)
                self.assertEqual(found.__base__.__name__, BASES.get(name, "object"))
                for method, given in methods.items():
                    self.assertEqual(names_of(getattr(found, method)), given, (name, method))

    def test_errors(self):
        for name in ERRORS:
            found = getattr(importlib.import_module("skewhouse.errors"), name)
            self.assertIs(found.__base__, SkewError)
        self.assertIs(SkewError.__base__, ValueError)

    def test_deals(self):
        importlib.import_module("skewhouse.deals")

    def test_each_function_is_called_below(self):
        called = {function.__name__ for function, handed in CALLS}
        apart = {"older", "closing", "let_in", "early", "stand_of", "level_of"}
        self.assertEqual({name for functions in FUNCTIONS.values() for name in functions} - called, apart)


class FunctionsTest(unittest.TestCase):
    def test_nothing_that_is_handed_in_is_changed(self):
        for function, make in CALLS:
            handed, same = make(), make()
            function(*handed)
            for one, other in zip(handed, same):
                if isinstance(one, (list, dict, tuple)):
                    self.assertEqual(one, other, function.__name__)

    def test_asked_again(self):
        for function, make in CALLS:
            handed = make()
            self.assertEqual(function(*handed), function(*handed), function.__name__)
            self.assertEqual(function(*make()), function(*handed), function.__name__)

    def test_what_is_given_is_the_askers_own(self):
        for function, make in CALLS:
            handed = make()
            given = function(*handed)
            before = copy.deepcopy(given)
            spoil(given)
            self.assertEqual(function(*handed), before, function.__name__)
            self.assertEqual(function(*make()), before, function.__name__)

    def test_what_is_done_later_to_what_was_handed_in(self):
        for function, make in CALLS:
            handed = make()
            given = function(*handed)
            before = copy.deepcopy(given)
            spoil(handed)
            self.assertEqual(given, before, function.__name__)
            self.assertEqual(function(*make()), before, function.__name__)


class SpansTest(unittest.TestCase):
    def fields(self, spans):
        return [copy.deepcopy(vars(span)) for span in spans]

    def test_asking_changes_nothing(self):
        other, mid, one = spans_of_three()
        kept, before = [other, mid], self.fields([other, mid, one])
        for again in range(2):
            self.assertEqual((older(mid, other), closing(kept, one)), (6, (1, 5, 2, 6, 3)))
            self.assertEqual((early(mid, kept), stand_of(mid, kept)), (True, 5))
            self.assertRaises(Broken, let_in, kept, one)
            self.assertEqual((kept, self.fields([other, mid, one])), ([other, mid], before))

    def test_a_new_list(self):
        other, mid, one = spans_of_three()
        kept = [other]
        longer = let_in(kept, mid)
        self.assertEqual((kept, longer), ([other], [other, mid]))
        longer.clear()
        self.assertEqual(let_in(kept, mid), [other, mid])

    def test_its_lists_are_copies(self):
        looks, puts = [(5, 6, 6, ())], [5]
        span = Span(2, True, 5, 10, looks, puts)
        spoil([looks, puts])
        self.assertEqual((span.looks, span.puts), ([(5, 6, 6, ())], [5]))


class ObjectsTest(unittest.TestCase):
    """What objects give is the asker's own, and what was handed in to them may be changed."""

    def asked_again(self, *questions):
        for question in questions:
            given = question()
            before = copy.deepcopy(given)
            self.assertEqual(question(), before)
            spoil(given)
            self.assertEqual(question(), before)

    def test_level(self):
        for word in WORDS:
            level, stands = level_of(word), [4, 6]
            self.asked_again(lambda: level.stamps(3, stands, 9, True))
            self.assertEqual(stands, [4, 6])

    def test_shelf(self):
        rows, drafts = {1: 10, 5: 50}, {5: None, 7: 70}
        shelf = Shelf(rows)
        shelf.put(3, 2, drafts)
        self.assertEqual((rows, drafts), ({1: 10, 5: 50}, {5: None, 7: 70}))
        spoil([rows, drafts])
        self.asked_again(lambda: shelf.there(3), lambda: shelf.there(0), lambda: shelf.rows(1, 9, 2),
                         lambda: shelf.touched(1, 9),
                         lambda: shelf.makers(5), lambda: shelf.makers(9), lambda: shelf.make(5, 3),
                         lambda: shelf.newest(7))
        self.assertEqual((shelf.there(0), shelf.there(3)), ([(1, 10), (5, 50)], [(1, 10), (7, 70)]))

    def test_holds(self):
        holds = Holds()
        holds.take(1, 3, 6, False)
        self.asked_again(lambda: holds.against(2, 5, 9, True), lambda: holds.held(1), lambda: holds.held(2))
        for again in range(2):
            with self.assertRaises(Waits) as caught:
                holds.take(2, 5, 9, True)
            self.assertEqual(caught.exception.others, [1])
            caught.exception.others.clear()

    def test_house(self):
        rows, programs, numbers = {5: 50}, programs_of(*PROGRAMS), [1, 2, 2, 1, 1]
        house = House(rows, programs)
        self.assertEqual((rows, programs), ({5: 50}, programs_of(*PROGRAMS)))
        spoil([rows, programs])
        woven = house.weave(numbers)
        self.assertEqual(numbers, [1, 2, 2, 1, 1])
        spoil([woven, numbers])
        self.asked_again(house.log, house.rows, house.made, house.order, lambda: house.looked(1),
                         lambda: house.looked(2),
                         lambda: house.state(1), lambda: house.reason(1), lambda: house.level_word(2),
                         lambda: history(house))
        self.assertEqual(house.log(), woven_house().log())
        spoil([house.step(1), house.rest()])
        self.assertEqual(house.log()[:-1], woven_house().log())

    def test_two_of_a_kind(self):
        for make, ask in [(lambda: House({5: 50}, programs_of(*PROGRAMS)), lambda house: house.weave([2, 2, 1])),
                          (lambda: Shelf({5: 50}), lambda shelf: shelf.put(1, 1, {5: 51})),
                          (Holds, lambda holds: holds.take(1, 3, 6, True)), (Desk, lambda desk: desk.say("row 5 50"))]:
            one, other, third = make(), make(), make()
            ask(one)
            self.assertNotEqual(self.told_of(one), self.told_of(other))
            self.assertEqual(self.told_of(other), self.told_of(third))

    def told_of(self, thing):
        if isinstance(thing, House):
            return thing.log(), thing.rows(), thing.state(2)
        if isinstance(thing, Shelf):
            return thing.there(5), thing.makers(5)
        return thing.held(1) if isinstance(thing, Holds) else thing.say("rows")


def grown():
    """A number of more than 4,300 figures, that houses told: each is handed what the one ahead of it told."""
    deeds = "; ".join(["read a 5"] + ["let a a + a"] * 38 + ["put 5 a"])
    rows = {5: -(10 ** 29)}
    while abs(rows[5]) < 10 ** 4400:
        house = House(rows, programs_of(*["hold: " + deeds] * 8))
        house.weave([number for number in range(1, 9) for turn in range(41)])
        rows = dict(house.rows())
    return rows[5]


class ManyFiguresTest(unittest.TestCase):
    """What a house has told is handed in again, however many figures its numbers have."""

    @classmethod
    def setUpClass(cls):
        cls.low = grown()
        cls.high = -cls.low
        digits, rest = [], cls.high
        while rest:
            digits.append(str(rest % 10))
            rest //= 10
        cls.figures = "".join(reversed(digits))

    def same(self, one, other):
        # Not by assertEqual: its words would show the numbers.
        self.assertTrue(one == other)

    def test_words_and_deeds(self):
        self.assertTrue(is_whole(self.low))
        self.same((worth(self.low, {}), worth("a", {"a": self.high})), (self.low, self.high))
        self.same(show_deed(("put", self.low, self.high)), f"put -{self.figures} {self.figures}")
        self.same(show_deed(("let", "a", self.high, "+", "b")), f"let a {self.figures} + b")
        self.same(show_program(("hold", [("take", self.low)])), f"hold: take -{self.figures}")
        self.same(asked(("sum", "a", "b", self.high), {"b": self.low}), (self.low, self.high))
        self.same(told(("sum", "a", 1, 2), [(self.low, self.high), (self.high, self.high)]), 2 * self.high)
        self.same(let_of(("let", "a", "b", "-", self.high), {"b": self.low}), 2 * self.low)
        self.assertEqual(following(("skip", self.low, self.high, 2), 0, {}, 9), 3)
        self.assertRaises(SkewError, number_of, self.figures)

    def test_stretches_and_shelf(self):
        self.assertTrue(inside(0, self.low, self.high) and meet(self.low, self.high, self.high, self.high))
        self.same(laid([(self.low, self.high)], {self.high: self.low}, self.low, self.high),
                  [(self.low, self.high), (self.high, self.low)])
        shelf = Shelf({self.low: self.high})
        shelf.put(1, 1, {self.high: self.low, self.low: None})
        self.same(shelf.there(1), [(self.high, self.low)])
        self.same((shelf.touched(self.low, self.high), shelf.newest(self.low)), ([self.low, self.high], (1, 1, None)))

    def test_holds_and_spans(self):
        holds = Holds()
        holds.take(1, self.low, self.high, True)
        self.same((holds.held(1), holds.against(2, 0, 0, False)), ([(self.low, self.high, True)], [1]))
        with self.assertRaises(Waits) as caught:
            holds.take(2, self.high, self.high, False)
        self.assertIsInstance(str(caught.exception), str)
        other, mid = Span(3, False, 4, 8, [], [self.high]), Span(2, True, 5, 10, [(5, self.low, self.high, ())],
                                                                 [self.low])
        one = Span(1, False, 3, 12, [(3, self.low, 0, ())], [])
        with self.assertRaises(Broken) as caught:
            let_in([other, mid], one)
        self.same(caught.exception.why, ("edges", 1, self.low, 2, self.high, 3))
        self.assertIsInstance(str(caught.exception), str)

    def test_house(self):
        programs = [("loose", [("sum", "a", self.low, self.high), ("put", self.high, "a"), ("put", "a", 5)])]
        house = House({self.low: self.high, 0: self.low}, programs)
        house.rest()
        self.same(house.rows(), [(self.low, self.high), (0, 5), (self.high, 0)])
        self.same([show_row(row) for row in house.log()],
                  [f"1 1 look -{self.figures} {self.figures}: -{self.figures}={self.figures} 0=-{self.figures}",
                   f"2 1 put {self.figures} 0",
                   "3 1 put 0 5", f"4 1 kept: 0=5 {self.figures}=0"])
        for number in [self.low, self.high]:
            for ask in [house.step, house.state, house.reason, house.looked, house.level_word,
                        lambda each: house.weave([1, each])]:
                self.assertRaises(NoDealing, ask, number)
        self.same(first_weaving({self.low: self.high}, programs, lambda each: len(each.rows()) == 2), [1, 1, 1, 1])

    def test_histories_and_the_judge(self):
        programs = [("make", [("read", "a", self.low), ("put", self.high, self.low)]),
                    ("make", [("read", "a", self.high), ("put", self.low, self.high)]),
                    ("kept", [("sum", "a", self.low, self.high)])]
        house = House({}, programs)
        house.weave([1, 2, 1, 2, 1, 3, 2])
        house.rest()
        past = history(house)
        text = (f"1 make: -{self.figures}<0\n2 make: {self.figures}<0\n3 kept: -{self.figures}<0 {self.figures}<1\n"
                f"make -{self.figures}: 2\nmake {self.figures}: 1")
        self.same(show_history(past), text)
        self.assertTrue(allowed(past, house.order()))
        self.assertEqual((judge(past)[0], unkept(past), len(spots(past))), ("order", None, 6))
        self.same(ills(past), [("skewed", 1, 2, self.low, self.high)])
        self.same(show_ill(ills(past)[0]), f"skewed 1 2 -{self.figures} {self.figures}")
        self.assertEqual(unlet(past), [])
        self.same(show_verdict(judge(past, "hold")),
                  f"ring 1.0 unseen -{self.figures} 2.0; 2.0 unseen {self.figures} 1.0")
        self.same([show_edge(edge) for edge in edges(past, "hold") if edge[0] == (3, 0)],
                  [f"3.0 unseen -{self.figures} 2.0"])
        self.assertRaises(SkewError, read_history, text)

    def test_orders_and_rings(self):
        nodes = [(self.high, self.low), (self.low, self.high), (0, 0)]
        self.same(order_of(nodes, [(nodes[0], nodes[1])]), [nodes[2], nodes[0], nodes[1]])
        self.same(least_ring(nodes, [(nodes[0], nodes[1]), (nodes[1], nodes[0])]), [nodes[1], nodes[0]])
        self.same(show_spots(nodes), f"{self.figures}.-{self.figures} -{self.figures}.{self.figures} 0.0")
        self.same(show_why(("first", self.low, 2)), f"first -{self.figures} 2")
        self.assertRaises(SkewError, read_spots, f"{self.figures}.0")


if __name__ == "__main__":
    unittest.main()
