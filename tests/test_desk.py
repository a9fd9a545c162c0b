"""Points 93 to 97, and 2: what a desk is told, what it answers, and what it refuses."""

import inspect
import unittest

from skewhouse.desk import Desk
from skewhouse.errors import NoDealing, NoDeed, NoHistory, NoLevel, NoProgram, NoRow, SkewError, TooMany
from skewhouse.histories import history, show_history
from skewhouse.house import House
from skewhouse.judge import judge
from skewhouse.programs import read_program
from skewhouse.tellings import show_row, show_verdict
from tests.helper import NO_WORDS, WORDS

BIG = 10 ** 30 - 1

DEALS = ["kept: read a 5; let a a + 1; put 5 a", "watch: sum s 1 9; put 9 s; take 1"]
LAY = ["row 1 10", "row 5 50"] + ["deal " + text for text in DEALS]

# Both read ahead of the other one's make.
SKEWED = "1 {0}: 5<0\n2 {0}: 6<0\nmake 5: 2\nmake 6: 1"

# Every row that asks, of a desk of the two dealings above.
ASKS = ["rows", "log", "state 1", "state 2", "why 1", "why 2", "order", "history", "judge", "play none",
        "play 2.0 1.0 1.1",
        "ills", "unlet", "weigh\n1 kept:", "weigh hold\n" + SKEWED.format("make")] + ["judge " + word for word in WORDS]


def desk_of(*rows):
    desk = Desk()
    for row in rows:
        desk.say(row)
    return desk


def stand_of(desk):
    """What the desk answers to all that can be asked of two dealings."""
    return [desk.say(row) for row in ASKS]


class DeskTest(unittest.TestCase):
    def answers(self, desk, *pairs):
        for row, answer in pairs:
            self.assertEqual(desk.say(row), answer, row)

    def refuses(self, error, desk, *rows):
        for row in rows:
            with self.subTest(row):
                with self.assertRaises(SkewError) as caught:
                    desk.say(row)
                self.assertIs(caught.exception.__class__, error)


class LayTest(DeskTest):
    def test_at_first(self):
        self.answers(Desk(), ("rows", "none"), ("log", "none"), ("order", "none"), ("history", "none"),
                     ("judge", "order none"),
                     ("judge hold", "order none"), ("play none", "yes"), ("play 1.0", "no"), ("ills", "none"),
                     ("unlet", "none"))
        self.refuses(NoDealing, Desk(), "state 1", "why 1", "state 0", "weave 1")

    def test_row(self):
        desk = Desk()
        self.answers(desk, ("row 5 50", "ok"), ("row -7 0", "ok"), (f"row {BIG} -{BIG}", "ok"), ("row 0 -1", "ok"))
        self.answers(desk, ("rows", f"-7=0 0=-1 5=50 {BIG}=-{BIG}"), ("log", "none"), ("history", "none"))

    def test_row_under_a_key_that_is_laid(self):
        desk = desk_of("row 5 50", "row 6 60")
        self.answers(desk, ("row 5 51", "ok"), ("rows", "5=51 6=60"), ("row 5 0", "ok"), ("rows", "5=0 6=60"))
        self.answers(desk, ("deal kept: read a 5", "ok"), ("weave 1", "1 1 look 5 5: 5=0"))

    def test_deal(self):
        desk = Desk()
        self.answers(desk, ("deal kept:", "ok"), ("state 1", "new"))
        self.refuses(NoDealing, desk, "state 2")
        self.answers(desk, ("deal watch: put 5 1", "ok"), ("state 2", "new"),
                     ("rest", "1 1 kept:\n2 2 put 5 1\n3 2 kept: 5=1"))

    def test_each_level(self):
        desk = desk_of(*[f"deal {word}: read a 5" for word in WORDS])
        self.answers(desk, ("weave 5 4 3 2 1 5 4 3 2 1", "\n".join(
            [f"{stamp} {6 - stamp} look 5 5:" for stamp in range(1, 6)]
            + [f"{stamp} {11 - stamp} kept:" for stamp in range(6, 11)])))
        self.answers(desk, ("history", "\n".join(f"{number} {word}: -" for number, word in enumerate(WORDS, start=1))))

    def test_clear(self):
        for turns in [[], ["weave 1 2"], ["weave 1 2 1", "rest"], ["rest", "rest"]]:
            desk = desk_of(*LAY, *turns)
            self.answers(desk, ("clear", "ok"), ("rows", "none"), ("log", "none"), ("order", "none"),
                         ("history", "none"))
            self.refuses(NoDealing, desk, "state 1", "weave 1")
            self.answers(desk, ("clear", "ok"), ("row 5 1", "ok"), ("deal kept: read a 5", "ok"), ("rows", "5=1"),
                         ("weave 1 1", "1 1 look 5 5: 5=1\n2 1 kept:"))

    def test_clear_of_a_new_one(self):
        desk = Desk()
        self.answers(desk, ("clear", "ok"), ("clear", "ok"), ("rows", "none"))
        self.refuses(NoDealing, desk, "state 1")

    def test_an_empty_desk_that_is_begun_is_cleared_too(self):
        desk = desk_of("rest")
        self.refuses(NoRow, desk, "row 1 1", "deal kept:")
        self.answers(desk, ("clear", "ok"), ("row 1 1", "ok"), ("deal kept:", "ok"))


class WeaveTest(DeskTest):
    def test_weave(self):
        desk = desk_of(*LAY)
        self.answers(desk, ("weave 2", "1 2 look 1 9: 1=10 5=50"),
                     ("weave 1 1 1", "2 1 look 5 5: 5=50\n3 1 let a 51\n4 1 put 5 51"),
                     ("weave 1 2", "5 1 kept: 5=51\n6 2 put 9 60"), ("weave 1", "7 1 idle"))

    def test_rest(self):
        desk = desk_of(*LAY)
        wanted = ["1 1 look 5 5: 5=50", "2 2 look 1 9: 1=10 5=50", "3 1 let a 51", "4 2 put 9 60", "5 1 put 5 51",
                  "6 2 take 1",
                  "7 1 kept: 5=51", "8 2 kept: 1=- 9=60"]
        self.answers(desk, ("rest", "\n".join(wanted)), ("rest", "none"), ("log", "\n".join(wanted)),
                     ("weave 2", "9 2 idle"))
        self.answers(desk, ("log", "\n".join(wanted + ["9 2 idle"])), ("rest", "none"), ("rows", "5=51 9=60"))

    def test_rest_of_a_desk_without_dealings(self):
        desk = desk_of("row 5 50")
        self.answers(desk, ("rest", "none"), ("rows", "5=50"), ("log", "none"), ("rest", "none"), ("order", "none"))
        self.refuses(NoRow, desk, "row 6 60", "row 5 51", "deal kept:")
        self.refuses(NoDealing, desk, "weave 1")

    def test_the_house_goes_on(self):
        desk, house = desk_of(*LAY), House({1: 10, 5: 50}, [read_program(text) for text in DEALS])
        for numbers in [[1], [2, 2], [1, 1, 2], [1], [2, 2, 2]]:
            rows = house.weave(numbers)
            self.answers(desk, ("weave " + " ".join(str(number) for number in numbers),
                                "\n".join(show_row(row) for row in rows)))
            self.answers(desk, ("log", "\n".join(show_row(row) for row in house.log())))

    def test_several_rows_of_one_turn(self):
        desk = desk_of("deal hold: put 5 1; put 6 1", "deal hold: put 6 2; put 5 2")
        self.answers(desk, ("weave 1 2 2 1", "1 1 put 5 1\n2 2 put 6 2\n3 2 wait 1\n4 2 broken ring 1 2\n4 1 put 6 1"))
        self.answers(desk, ("why 2", "ring 1 2"), ("why 1", "none"), ("state 2", "broken"), ("state 1", "going"))

    def test_what_is_laid_is_laid_by_then(self):
        desk = Desk()
        self.answers(desk, ("row 5 1", "ok"), ("rows", "5=1"), ("deal kept: read a 5", "ok"), ("state 1", "new"),
                     ("row 5 2", "ok"),
                     ("rows", "5=2"), ("deal kept:", "ok"), ("state 2", "new"), ("weave 1", "1 1 look 5 5: 5=2"))


class AsksTest(DeskTest):
    def test_behind_the_first_turn(self):
        desk = desk_of(*LAY, "weave 2 1 1 1")
        self.answers(desk, ("rows", "1=10 5=50"), ("state 1", "going"), ("state 2", "going"), ("why 1", "none"),
                     ("order", "none"),
                     ("history", "none"), ("judge", "order none"), ("play none", "yes"), ("play 1.0", "no"),
                     ("ills", "none"),
                     ("log", "1 2 look 1 9: 1=10 5=50\n2 1 look 5 5: 5=50\n3 1 let a 51\n4 1 put 5 51"))

    def test_at_rest(self):
        desk = desk_of(*LAY, "weave 2 1 1 1", "rest")
        text = "1 kept: 5<0\n2 watch: 1<0 5<0 9<0\nmake 1: 2\nmake 5: 1\nmake 9: 2"
        self.answers(desk, ("rows", "5=51 9=60"), ("state 1", "kept"), ("order", "2.0 1.0 1.1"), ("history", text),
                     ("why 1", "none"))
        self.answers(desk, ("judge", "order 1.0 2.0 1.1"), ("judge watch", "order 2.0 1.0"),
                     ("judge loose", "order 1.0 2.0"),
                     ("judge kept", "order 1.0 2.0 1.1 2.1"), ("judge make", "order 1.0 2.0 1.1 2.1"),
                     ("judge hold", "order 2.0 1.0"))
        self.answers(desk, ("play 2.0 1.0 1.1", "yes"), ("play 1.0 2.0 1.1", "yes"), ("play 1.0 1.1 2.0", "no"),
                     ("play none", "no"),
                     ("play 2.0 1.1 1.0", "no"), ("play 2.0 1.0", "no"), ("play 2.0 1.0 1.1 1.2", "no"),
                     ("play 0.0", "no"))

    def test_states(self):
        texts = ["hold: put 5 1; read a 1", "hold: put 5 2", "kept: stop 0 1", "kept:", "kept: read a 1"]
        desk = desk_of(*["deal " + text for text in texts], "weave 1 2 3 4")
        states = ["going", "waiting", "broken", "kept", "new"]
        self.answers(desk, *[(f"state {number}", state) for number, state in enumerate(states, start=1)])
        whys = ["none", "none", "own", "none", "none"]
        self.answers(desk, *[(f"why {number}", why) for number, why in enumerate(whys, start=1)])

    def test_each_reason(self):
        desk = desk_of("deal make: read a 5; put 5 1", "deal kept: put 5 2", "weave 1 2 2", "rest")
        self.answers(desk, ("why 1", "first 5 2"), ("state 1", "broken"), ("why 2", "none"))
        desk = desk_of("deal kept: read a 5", "deal watch: read a 6; put 5 1", "deal kept: put 6 1")
        desk.say("weave 1 2 2 3 3 2 1")
        self.answers(desk, ("why 1", "edges 1 5 2 6 3"), ("why 2", "none"))
        self.assertTrue(desk.say("log").endswith("\n7 1 broken edges 1 5 2 6 3"))

    def test_levels_of_a_word(self):
        desk = desk_of("deal make: read a 5; put 6 1", "deal make: read a 6; put 5 1", "weave 1 2", "rest")
        self.answers(desk, ("judge", "order 1.0 2.0 1.1 2.1"),
                     ("judge watch", "ring 1.0 unseen 5 2.0; 2.0 unseen 6 1.0"),
                     ("ills", "skewed 1 2 5 6"), ("unlet", "none"))

    def test_judge_at_each_level_as_the_judge_tells(self):
        desk = desk_of("deal loose: read a 5; read b 5; put 6 1", "deal loose: read a 6; put 5 1; put 5 2",
                       "weave 1 2 2 1 2", "rest")
        programs = ["loose: read a 5; read b 5; put 6 1", "loose: read a 6; put 5 1; put 5 2"]
        house = House({}, [read_program(text) for text in programs])
        house.weave([1, 2, 2, 1, 2])
        house.rest()
        past = history(house)
        self.answers(desk, ("history", show_history(past)), ("judge", show_verdict(judge(past))),
                     *[("judge " + word, show_verdict(judge(past, word))) for word in WORDS])
        self.assertEqual(len({desk.say("judge " + word) for word in WORDS}), 2)
        self.answers(desk, ("judge watch", "unkept 1 1 5"), ("ills", "midway 1 5; skewed 1 2 5 6; unkept 1 5"),
                     ("unlet", "none"))

    def test_ills_that_are_let(self):
        desk = desk_of("row 5 50", *["deal kept: read a 5; let a a + 1; put 5 a"] * 2, "weave 1 2 1 2", "rest")
        self.answers(desk, ("ills", "lost 2 1 5"), ("unlet", "none"), ("rows", "5=51"),
                     ("judge make", "ring 1.1 over 5 2.0; 2.0 unseen 5 1.1"))

    def test_kept_rows_alone(self):
        desk = desk_of("row 5 50", "deal kept: put 5 1; put 6 6; take 7", "weave 1 1")
        self.answers(desk, ("rows", "5=50"), ("weave 1 1", "3 1 take 7\n4 1 kept: 5=1 6=6 7=-"), ("rows", "5=1 6=6"))
        desk = desk_of("row 5 50", "deal kept: take 5", "rest")
        self.answers(desk, ("rows", "none"))

    def test_asking_changes_nothing(self):
        for turns in [[], ["weave 1"], ["weave 2 1 1 1"], ["weave 2 1 1 1", "rest"]]:
            desk = desk_of(*LAY, *turns)
            first = stand_of(desk)
            self.assertEqual(stand_of(desk), first)
            self.assertEqual([desk.say(row) for row in reversed(ASKS)], first[::-1])
            self.assertEqual(desk.say("weave 2 1 2"), desk_of(*LAY, *turns).say("weave 2 1 2"))

    def test_asking_ahead_of_the_first_turn_begins_nothing(self):
        desk = Desk()
        for row in LAY:
            for ask in ["rows", "log", "order", "history", "judge", "judge kept", "play none", "ills", "unlet",
                        "weigh\n"]:
                desk.say(ask)
            self.assertEqual(desk.say(row), "ok")
        self.assertEqual(desk.say("weave 2"), "1 2 look 1 9: 1=10 5=50")

    def test_numbers_of_more_than_thirty_figures(self):
        desk = desk_of(f"row 5 {BIG}", "deal kept: read a 5; let a a + a; read b a; put a a", "rest")
        double = str(2 * BIG)
        self.answers(desk, ("rows", f"5={BIG} {double}={double}"),
                     ("history", f"1 kept: -; {double}<0\nmake {double}: 1"),
                     ("judge", "order 1.0 1.1 1.2"), ("unlet", "none"))
        # Shown so, but not read.
        self.refuses(NoHistory, desk, "weigh\n" + desk.say("history"))


class WeighTest(DeskTest):
    def test_own_levels(self):
        self.answers(Desk(), ("weigh\n", "order none"), ("weigh\n1 kept:", "order 1.0"),
                     ("weigh\n2 make: 5<0", "order 2.0 2.1"),
                     ("weigh\n" + SKEWED.format("make"), "order 1.0 2.0 1.1 2.1"),
                     ("weigh\n1 kept: -; 5<?", "unkept 1 1 5"),
                     ("weigh\n" + SKEWED.format("hold"), "ring 1.0 unseen 5 2.0; 2.0 unseen 6 1.0"))

    def test_a_level_for_all(self):
        ring = "ring 1.0 unseen 5 2.0; 2.0 unseen 6 1.0"
        wanted = ["order 1.0 2.0", "order 1.0 2.0 1.1 2.1", "order 1.0 2.0 1.1 2.1", ring, ring]
        for own in WORDS:
            for word, answer in zip(WORDS, wanted):
                self.answers(Desk(), (f"weigh {word}\n" + SKEWED.format(own), answer))
        self.answers(Desk(), *[(f"weigh {word}\n", "order none") for word in WORDS])

    def test_it_is_not_about_the_house(self):
        for rows in [[], LAY, LAY + ["weave 1"], LAY + ["rest"]]:
            desk = desk_of(*rows)
            self.answers(desk, ("weigh\n8 kept: 5<?", "unkept 8 0 5"), ("weigh loose\n8 kept: 5<?", "order 8.0"))
            self.assertEqual([desk.say(row) for row in ["rows", "log"]],
                             [desk_of(*rows).say(row) for row in ["rows", "log"]])

    def test_refused(self):
        self.refuses(NoHistory, Desk(), "weigh\n\n", "weigh\nnone", "weigh\n9 kept:", "weigh\n1 kept: 5<2",
                     "weigh\n1 kept:\n", "weigh\n ",
                     "weigh hold\nnone", "weigh loose\n\n", "weigh kept\n1 kept", "weigh kept\nweigh\n1 kept:")
        self.refuses(NoLevel, Desk(), *[f"weigh {word}\n1 kept:" for word in NO_WORDS])
        self.refuses(NoLevel, Desk(), *[f"weigh {word}\nnone" for word in NO_WORDS])
        self.refuses(NoLevel, Desk(), "weigh \n", "weigh  hold\n", "weigh hold \n", "weigh hold kept\n",
                     "weigh 1 kept:\n", "weigh hold:\n1 kept:")
        self.refuses(NoRow, Desk(), "weigh", "weigh ", "weigh hold", "weigh  ", "weighs\n", "weigh:\n", "Weigh\n",
                     " weigh\n", "\nweigh\n", "wei\n")


# None of these has a form of points 93 to 96.
NO_ROWS = [
    "", " ", "\n", "ok", "none", "help", "row", "row ", "row 5", "row 5 ", "row  5 5", "row 5  5", "row 5 5 ",
    "row 5 5 5", " row 5 5", "row 5 5\n", "row\n5 5", "row a 5", "row 5 a", "row 05 5", "row 5 05", "row +5 5",
    "row 5 +5", "row -0 5", "row 5 -0", "row 5=5", "row 5,5", "row 5.0 5", "row 5 none", "row 5 -", "Row 5 5",
    "rows 5 5", "rowed", "row5 5", "row " + "1" * 31 + " 5", "row 5 " + "1" * 31, "row 5 -" + "1" * 31,
    "row 1" + "0" * 30 + " 1", "row 5\t5", "row 1_0 5", "deal", "deal\n", "deal:", "deals kept:", " deal kept:",
    "Deal kept:", "deal\nkept:", "dealkept:", "kept:", "kept: put 5 5", "clear ", " clear", "clear\n", "clear all",
    "Clear", "cleared", "clear clear", "weave", "weave ", "weave  1", "weave 1 ", "weave 1  1", " weave 1",
    "weave 1\n", "weave\n1", "weave 1\n1", "weave 1,1", "weave a", "weave 1 a", "weave 01", "weave +1", "weave -0",
    "weave 1 01", "weave none", "weave 1.0", "Weave 1", "weaves 1", "weave1", "weave [1]", "weave " + "1" * 31,
    "weave 1 " + "1" * 31, "weave 1_0", "weave 1;1", "rest ", " rest", "rest\n", "rest 1", "Rest", "rested",
    "rest rest", "rows ", " rows", "rows\n", "rows 1", "Rows", "log ", " log", "log\n", "log 1", "Log", "logs",
    "state", "state ", "state  1", "state 1 ", "state 1 2", "state a", "state 01", "state +1", "state -0", "state\n1",
    "state 1\n", "State 1", "states 1", "state1", "state " + "1" * 31, "why", "why ", "why  1", "why 1 ", "why 1 2",
    "why a", "why 01", "why +1", "why -0", "why\n1", "why 1\n", "Why 1", "why?", "why none", "why " + "1" * 31,
    "order ", " order", "order\n", "order 1", "Order", "orders", "history ", " history", "history\n", "history 1",
    "History", "judge\n", " judge", "Judge", "judges", "judge\nkept", "judgekept", "judged kept", "play", "play ",
    "play  none", "play none ", "play 1", "play 1.0 ", "play  1.0", "play 1.0  1.1", "play 1.0\n", "play\n1.0",
    "play 01.0", "play 1.00", "play -1.0", "play 1.-1", "play +1.0", "play 1.0,1.1", "play None", "play yes",
    "Play none", "plays none", "play none none", "play " + "1" * 31 + ".0", "play 1." + "1" * 31, "ills ", " ills",
    "ills\n", "ills 1", "Ills", "ill", "unlet ", " unlet", "unlet\n", "unlet 1", "Unlet", "unlets", "ills unlet",
]


class FormsTest(DeskTest):
    def test_none_of_the_forms(self):
        self.refuses(NoRow, Desk(), *NO_ROWS)
        self.refuses(NoRow, desk_of(*LAY), *NO_ROWS)
        self.refuses(NoRow, desk_of(*LAY, "weave 1 2 1"), *NO_ROWS)

    def test_they_change_nothing(self):
        for turns in [[], ["weave 1 2 1"]]:
            desk = desk_of(*LAY, *turns)
            before = stand_of(desk)
            self.refuses(NoRow, desk, *NO_ROWS)
            self.assertEqual(stand_of(desk), before)

    def test_nothing_is_laid_where_the_desk_is_begun(self):
        for begin in ["weave 1", "rest", "weave 1\nrest"]:
            desk = desk_of(*LAY, *begin.split("\n"))
            before = stand_of(desk)
            self.refuses(NoRow, desk, "row 1 10", "row 7 70", "row 5", "deal kept:", "deal", "deal ", "deal x",
                         "deal kept: x", "deal kept")
            self.assertEqual(stand_of(desk), before)

    def test_arguments(self):
        self.assertEqual(list(inspect.signature(Desk).parameters), [])
        self.assertEqual(list(inspect.signature(Desk.say).parameters), ["self", "row"])
        self.assertEqual(Desk().say(row="rows"), "none")
        self.assertIs(Desk().say("rows").__class__, str)


class StagesBeneathTest(DeskTest):
    def test_no_program(self):
        self.refuses(NoProgram, Desk(), "deal ", "deal  ", "deal kept", "deal kept:read a 5", "deal Kept:",
                     "deal keep: read a 5", "deal  kept:",
                     "deal kept:\n", "deal :", "deal kept: " + "; ".join(["read a 5"] * 41), "deal kept :",
                     "deal kept\n: read a 5", "deal deal kept:")

    def test_no_deed(self):
        self.refuses(NoDeed, Desk(), "deal kept: ", "deal kept: x", "deal kept: read a", "deal kept: read a 5;",
                     "deal kept: read a 5; ",
                     "deal kept: read a 5 ", "deal kept:  read a 5", "deal kept: read a 05", "deal kept: read a 5\n",
                     "deal kept: skip 1 2 41",
                     "deal watch: read a 5;read b 5", "deal kept: put 5 " + "1" * 31,
                     "deal hold: " + "; ".join(["x"] * 40))

    def test_the_longest_program(self):
        desk = Desk()
        self.answers(desk, ("deal kept: " + "; ".join(["read a 5"] * 40), "ok"), ("state 1", "new"))

    def test_no_dealing(self):
        for turns in [[], ["weave 1"]]:
            desk = desk_of(*LAY, *turns)
            self.refuses(NoDealing, desk, "weave 3", "weave 0", "weave -1", "weave 1 2 3", "weave 3 1", "weave 1 0 2",
                         f"weave {BIG}",
                         "state 3", "state 0", "state -1", f"state {BIG}", f"state -{BIG}", "why 3", "why 0", "why -1",
                         f"why -{BIG}")

    def test_no_level(self):
        for desk in [Desk(), desk_of(*LAY), desk_of(*LAY, "rest")]:
            self.refuses(NoLevel, desk, *["judge " + word for word in NO_WORDS])
            self.refuses(NoLevel, desk, "judge ", "judge  kept", "judge kept ", "judge kept hold", "judge \n",
                         "judge kept\n", "judge kept\n1 kept:")

    def test_a_refused_row_changes_nothing(self):
        for turns in [[], ["weave 1 2 1"]]:
            desk = desk_of(*LAY, *turns)
            before = stand_of(desk)
            for row in ["weave 1 2 3", "state 3", "judge x", "weigh x\n", "weigh\nx", "deal x", "deal kept: x",
                        "weave 1 1 1 1 0"]:
                self.assertRaises(SkewError, desk.say, row)
            self.assertEqual(stand_of(desk), before)
            self.assertEqual(desk.say("weave 2 1 2"), desk_of(*LAY, *turns).say("weave 2 1 2"))

    def test_a_weave_that_is_refused_begins_nothing(self):
        desk = desk_of(*LAY)
        self.refuses(NoDealing, desk, "weave 1 2 3")
        self.answers(desk, ("row 5 51", "ok"), ("deal kept:", "ok"), ("weave 3", "1 3 kept:"))

    def test_a_deal_that_is_refused_is_not_counted(self):
        desk = desk_of("deal kept: read a 5")
        self.refuses(NoDeed, desk, "deal kept: x")
        self.refuses(NoProgram, desk, "deal x")
        self.refuses(NoDealing, desk, "state 2")
        self.answers(desk, ("deal watch:", "ok"), ("weave 2", "1 2 kept:"))


class TooManyTest(DeskTest):
    def test_the_hundred_and_first_key(self):
        desk = desk_of(*[f"row {key} {key}" for key in range(99)])
        self.answers(desk, ("row -1 -1", "ok"))
        rows = desk.say("rows")
        self.assertEqual(len(rows.split(" ")), 100)
        self.refuses(TooMany, desk, "row 99 99", "row -2 0", f"row {BIG} 1")
        self.answers(desk, ("rows", rows))
        # Under a key that is laid it is no new one.
        self.answers(desk, ("row -1 7", "ok"), ("row 50 7", "ok"),
                     ("rows", rows.replace("-1=-1", "-1=7").replace("50=50", "50=7")))
        self.refuses(TooMany, desk, "row 99 99")
        self.answers(desk, ("clear", "ok"), ("row 99 99", "ok"))

    def test_the_same_key_again_and_again(self):
        desk = Desk()
        for value in range(150):
            self.assertEqual(desk.say(f"row 5 {value}"), "ok")
        self.answers(desk, ("row 6 6", "ok"), ("rows", "5=149 6=6"))

    def test_the_ninth_dealing(self):
        desk = desk_of(*["deal kept:"] * 7)
        self.answers(desk, ("deal hold:", "ok"), ("state 8", "new"))
        self.refuses(TooMany, desk, "deal kept:", "deal x", "deal ", "deal kept: x",
                     "deal kept: " + "; ".join(["x"] * 41))
        self.refuses(NoDealing, desk, "state 9")
        self.answers(desk, ("weave 8 1", "1 8 kept:\n2 1 kept:"), ("clear", "ok"), ("deal kept:", "ok"))

    def test_refused_deals_do_not_count(self):
        desk = desk_of(*["deal kept:"] * 7)
        for turn in range(5):
            self.refuses(NoDeed, desk, "deal kept: x")
        self.answers(desk, ("deal kept:", "ok"))
        self.refuses(TooMany, desk, "deal kept: x")

    def turns(self, many, number=1):
        return "weave " + " ".join([str(number)] * many)

    def test_the_turn_above_four_hundred(self):
        desk = desk_of("deal kept:")
        self.assertEqual(desk.say(self.turns(400)).count("\n"), 399)
        self.refuses(TooMany, desk, "weave 1", self.turns(400))
        desk = desk_of("deal kept:")
        self.refuses(TooMany, desk, self.turns(401))
        self.answers(desk, ("log", "none"), ("row 5 50", "ok"))
        self.assertEqual(desk.say(self.turns(399)).count("\n"), 398)
        self.refuses(TooMany, desk, self.turns(2))
        self.answers(desk, ("weave 1", "400 1 idle"))
        self.refuses(TooMany, desk, "weave 1")

    def test_of_several_rows(self):
        desk = desk_of("deal kept:", "deal kept: read a 5")
        for many in [150, 150, 99]:
            desk.say(self.turns(many, 2))
        self.refuses(TooMany, desk, "weave 1 1", self.turns(100))
        self.answers(desk, ("weave 1", "400 1 kept:"))
        self.refuses(TooMany, desk, "weave 1")
        self.assertEqual(desk.say("log").count("\n"), 399)

    def test_turns_of_a_rest_do_not_count(self):
        desk = desk_of(*["deal kept: " + "; ".join(["read a 5"] * 40)] * 8)
        self.assertEqual(desk.say("rest").count("\n"), 8 * 41 - 1)
        self.assertEqual(desk.say(self.turns(400)).count("\n"), 399)
        self.refuses(TooMany, desk, "weave 1")
        self.answers(desk, ("rest", "none"), ("state 1", "kept"))
        desk = desk_of("deal kept: read a 5", self.turns(1), "rest", self.turns(398), "rest")
        self.answers(desk, ("weave 1", "401 1 idle"))
        self.refuses(TooMany, desk, "weave 1")

    def test_a_rest_behind_four_hundred(self):
        desk = desk_of("deal kept:", "deal kept: read a 5", self.turns(400))
        self.answers(desk, ("rest", "401 2 look 5 5:\n402 2 kept:"))

    def test_turns_of_refused_rows_do_not_count(self):
        desk = desk_of("deal kept:")
        self.refuses(NoDealing, desk, self.turns(400, 2), self.turns(399) + " 2")
        self.refuses(NoRow, desk, self.turns(300) + " x")
        self.refuses(TooMany, desk, self.turns(500))
        desk.say(self.turns(200))
        self.refuses(NoDealing, desk, self.turns(200, 2))
        self.refuses(TooMany, desk, self.turns(201))
        self.assertEqual(desk.say(self.turns(200)).count("\n"), 199)
        self.refuses(TooMany, desk, "weave 1")

    def test_clear_counts_anew(self):
        desk = desk_of("deal kept:", self.turns(400), "clear", "deal kept:")
        self.assertEqual(desk.say(self.turns(400)).count("\n"), 399)
        self.refuses(TooMany, desk, "weave 1")


class FirstThatIsDueTest(DeskTest):
    def test_no_row_ahead_of_too_many(self):
        desk = desk_of(*[f"row {key} 0" for key in range(100)], *["deal kept:"] * 8)
        self.refuses(NoRow, desk, "row 100", "row 100 0 ", "row 100 x", "deal", "weave " + "1 " * 401,
                     "weave " + "1 " * 401 + "x")
        self.refuses(TooMany, desk, "row 100 0", "deal kept:", "weave " + "1 " * 400 + "1")
        desk.say("weave 1")
        self.refuses(NoRow, desk, "row 100 0", "deal kept:", "deal x", "row 5 5")

    def test_too_many_ahead_of_the_stages_beneath(self):
        desk = desk_of(*["deal kept:"] * 8)
        self.refuses(TooMany, desk, "deal x", "deal kept: x", "weave " + "9 " * 400 + "9", "weave " + "1 " * 400 + "0")
        self.refuses(NoDealing, desk, "weave " + "1 " * 399 + "9")
        desk.say("weave " + "1 " * 399 + "1")
        self.refuses(TooMany, desk, "weave 9", "weave 0")

    def test_no_program_ahead_of_no_deed(self):
        self.refuses(NoProgram, Desk(), "deal keep: x", "deal kept: " + "; ".join(["x"] * 41))

    def test_no_level_ahead_of_no_history(self):
        self.refuses(NoLevel, Desk(), "weigh x\nx", "weigh \nx", "weigh kept \n9 kept:")
        self.refuses(NoHistory, Desk(), "weigh kept\nx", "weigh\nx")

    def test_no_row_ahead_of_no_level_and_no_dealing(self):
        self.refuses(NoRow, Desk(), "weigh x", "weigh kept", "state x", "state 9 9", "why 9 x", "weave 9 x", "weave 9 ")


class TwoDesksTest(DeskTest):
    def test_they_know_nothing_of_each_other(self):
        rows = [["row 5 50", "deal kept: read a 5; put 5 1", "weave 1", "rows", "rest", "history", "rows", "judge"],
                ["row 5 70", "deal hold: take 5; put 6 6", "weave 1 1", "rows", "rest", "history", "rows", "judge"]]
        alone = [[desk.say(row) for row in own] for desk, own in zip([Desk(), Desk()], rows)]
        one, other = Desk(), Desk()
        both = [(one.say(row), other.say(other_row)) for row, other_row in zip(*rows)]
        self.assertEqual([list(answers) for answers in zip(*both)], alone)
        one.say("clear")
        self.assertEqual((one.say("rows"), other.say("rows")), ("none", "6=6"))

    def test_one_has_enough(self):
        laid = [f"row {key} 0" for key in range(100)] + ["deal kept:"] * 8
        full, other = desk_of(*laid, "weave " + "1 " * 399 + "1"), Desk()
        self.answers(other, ("rows", "none"), ("row 100 0", "ok"), ("deal kept:", "ok"), ("weave 1", "1 1 kept:"))
        self.refuses(TooMany, full, "weave 1")


if __name__ == "__main__":
    unittest.main()
