"""Points 4, 5, 7, 85 and 93 to 97 over the whole: desks told rows drawn by fixed seeds, and a plain second account."""

import random
import re
import unittest

from skewhouse.desk import Desk
from skewhouse.errors import SkewError
from skewhouse.programs import show_program
from tests.helper import NUMBER, NO_WORDS, WORDS, Account, Told, drawn_history, drawn_program, history_text, ill_text
from tests.helper import ills_of, is_allowed, row_text, run_alone, second_judge, second_reading, spots_text, unlet_of
from tests.helper import verdict_text, why_text
from tests.test_deeds import is_written

SPOT = r"(?:0|[1-9][0-9]{0,29})\.(?:0|[1-9][0-9]{0,29})"
ROW = re.compile(f"row ({NUMBER}) ({NUMBER})")
DEAL = re.compile("deal (.*)", re.DOTALL)
WEAVE = re.compile(f"weave ({NUMBER}(?: {NUMBER})*)")
OF_ONE = re.compile(f"(state|why) ({NUMBER})")
JUDGE = re.compile("judge (.*)", re.DOTALL)
PLAY = re.compile(f"play (none|{SPOT}(?: {SPOT})*)")
WEIGH = re.compile("weigh(?: ([^\n]*))?\n(.*)", re.DOTALL)
PLAIN = ["clear", "rest", "rows", "log", "order", "history", "judge", "ills", "unlet"]


class Refused(Exception):
    """A refusal of the second account, by the name of its class."""


def second_program(text):
    """A second account of point 18."""
    head, colon, tail = text.partition(":")
    if not colon or head not in WORDS or (tail and tail[0] != " ") or tail.count("; ") > 39:
        raise Refused("NoProgram")
    parts = tail[1:].split("; ") if tail else []
    if not all(is_written(part) for part in parts):
        raise Refused("NoDeed")
    operands = [[int(part) if re.fullmatch(NUMBER, part) else part for part in deed.split(" ")] for deed in parts]
    return head, [tuple(deed) for deed in operands]


class SecondDesk:
    """A plain second account of points 93 to 97: of each row the answer, or the name of the refusal's class."""

    def __init__(self):
        self.rows, self.programs, self.account, self.turns = {}, [], None, 0

    def say(self, row):
        try:
            return self.answer(row)
        except Refused as refusal:
            return refusal.args[0]

    def answer(self, row):
        if row in PLAIN:
            return self.plain(row)
        for form, answer in [(ROW, self.row), (DEAL, self.deal), (WEAVE, self.weave), (OF_ONE, self.of_one),
                             (PLAY, self.play), (JUDGE, self.judge), (WEIGH, self.weigh)]:
            found = form.fullmatch(row)
            if found:
                return answer(*found.groups())
        raise Refused("NoRow")

    def row(self, key, value):
        if self.account is not None:
            raise Refused("NoRow")
        if len({**self.rows, int(key): 0}) > 100:
            raise Refused("TooMany")
        self.rows[int(key)] = int(value)
        return "ok"

    def deal(self, text):
        if self.account is not None:
            raise Refused("NoRow")
        if len(self.programs) == 8:
            raise Refused("TooMany")
        self.programs.append(second_program(text))
        return "ok"

    def begin(self):
        if self.account is None:
            self.account = Account(dict(self.rows), list(self.programs))
        return self.account

    def weave(self, text):
        numbers = [int(part) for part in text.split()]
        if self.turns + len(numbers) > 400:
            raise Refused("TooMany")
        if not all(number in range(1, len(self.programs) + 1) for number in numbers):
            raise Refused("NoDealing")
        self.turns += len(numbers)
        before = len(self.begin().log)
        for number in numbers:
            self.account.turn(number)
        return self.lines(self.account.log[before:])

    def lines(self, rows):
        return "\n".join(row_text(row) for row in rows) or "none"

    def told(self):
        log = [] if self.account is None else self.account.log
        return Told(self.rows, [word for word, deeds in self.programs], log)

    def past(self):
        told = self.told()
        deals = [(number, told.words[number - 1], told.looked(number)) for number in sorted(told.kept())]
        return (deals, told.made())

    def plain(self, row):
        told = self.told()
        if row == "clear":
            self.__init__()
            return "ok"
        if row == "rest":
            before = len(self.begin().log)
            return self.lines(self.account.play([])[before:])
        if row == "rows":
            return " ".join(f"{key}={value}" for key, value in told.rows()) or "none"
        if row == "log":
            return self.lines(told.log)
        if row == "order":
            return spots_text(told.order())
        if row == "history":
            return history_text(self.past()) or "none"
        if row == "judge":
            return verdict_text(second_judge(self.past()))
        found = ills_of(self.past()) if row == "ills" else unlet_of(self.past())
        return "; ".join(ill_text(ill) for ill in found) or "none"

    def of_one(self, word, number):
        if int(number) not in range(1, len(self.programs) + 1):
            raise Refused("NoDealing")
        return self.told().state[int(number)] if word == "state" else why_text(self.told().why.get(int(number)))

    def judge(self, word):
        if word not in WORDS:
            raise Refused("NoLevel")
        return verdict_text(second_judge(self.past(), word))

    def play(self, text):
        order = [] if text == "none" else [tuple(int(part) for part in spot.split(".")) for spot in text.split(" ")]
        return "yes" if is_allowed(self.past(), order) else "no"

    def weigh(self, word, text):
        if word is not None and word not in WORDS:
            raise Refused("NoLevel")
        past = second_reading(text)
        if past is None:
            raise Refused("NoHistory")
        return verdict_text(second_judge(past, word))


def drawn_spots(chance, second):
    """Mostly the spots of the house's own order, some of them changed."""
    order = second.told().order()
    turn = chance.random()
    if turn < 0.2:
        chance.shuffle(order)
    elif turn < 0.3:
        order = order[1:]
    elif turn < 0.4:
        order.append((chance.randint(0, 9), chance.randint(0, 3)))
    elif turn < 0.7 and len(order) > 1:
        at = chance.randrange(len(order) - 1)
        order[at:at + 2] = order[at + 1], order[at]
    return spots_text(order)


def drawn_text(chance, second):
    """The text of a history, drawn or the desk's own."""
    past = second.past() if chance.random() < 0.4 else drawn_history(chance, chance.choice([(), (-1,)]))
    return history_text(past)


def with_a_sign_changed(chance, text):
    at, sign = chance.randint(0, len(text)), chance.choice("\n 0123459:;<?-amkelrw+.=")
    return chance.choice([text[:at] + text[at + 1:], text[:at] + sign + text[at:], text[:at] + sign + text[at + 1:]])


def drawn_number(chance, second):
    if chance.random() < 0.06:
        return chance.choice([-1, 0, 9, 10 ** 30 - 1])
    return chance.randint(1, max(1, len(second.programs)))


def drawn_word(chance):
    return chance.choice(NO_WORDS) if chance.random() < 0.1 else chance.choice(WORDS)


def drawn_row(chance, second, words=WORDS):
    """A row of any form; most of those that lay things come ahead of the first turn."""
    laying = second.account is None and len(second.programs) < 5 and chance.random() < 0.6
    kind = chance.choice(["row", "deal", "deal"] if laying else [
        "weave", "weave", "weave", "weave", "plain", "plain", "plain", "of one", "judge", "play", "weigh", "row",
        "deal", "rest"])
    if kind == "row":
        return f"row {chance.randint(-1, 6)} {chance.choice([chance.randint(-2, 9), 10 ** 29])}"
    if kind == "deal":
        return "deal " + show_program(drawn_program(chance, words, 6))
    if kind == "weave":
        many = 130 if chance.random() < 0.03 else chance.randint(1, 9)
        return "weave " + " ".join(str(drawn_number(chance, second)) for turn in range(many))
    if kind == "of one":
        return f"{chance.choice(['state', 'why'])} {drawn_number(chance, second)}"
    if kind == "judge":
        return "judge " + drawn_word(chance)
    if kind == "play":
        return "play " + drawn_spots(chance, second)
    if kind == "weigh":
        return chance.choice(["weigh", "weigh " + drawn_word(chance)]) + "\n" + drawn_text(chance, second)
    if kind == "rest":
        return "rest"
    return chance.choice(PLAIN[1:]) if chance.random() < 0.95 else "clear"


def answer_of(desk, row):
    try:
        return desk.say(row)
    except SkewError as refusal:
        return refusal.__class__.__name__


class SecondAccountTest(unittest.TestCase):
    def test_rows_of_all_forms(self):
        answers = {}
        for seed in range(400):
            chance, desk, second = random.Random(seed), Desk(), SecondDesk()
            for turn in range(60):
                row = drawn_row(chance, second)
                if chance.random() < 0.12:
                    row = with_a_sign_changed(chance, row)
                wanted = second.say(row)
                self.assertEqual(answer_of(desk, row), wanted, (seed, row))
                if chance.random() < 0.1:
                    self.assertEqual(answer_of(desk, "log"), second.say("log"), seed)
                word = re.split("[ \n]", row)[0]
                answers.setdefault(wanted if wanted[:2] == "No" or wanted == "TooMany" else word, set()).add(wanted)
        # The seeds are worth something only where each form comes up, with unlike answers, and each refusal.
        for word in ["weave", "rest", "rows", "log", "state", "why", "order", "history", "judge", "play", "weigh",
                     "ills"]:
            self.assertGreater(len(answers[word]), 1, word)
        for refusal in ["NoRow", "TooMany", "NoProgram", "NoDeed", "NoDealing", "NoLevel", "NoHistory"]:
            self.assertIn(refusal, answers)
        self.assertEqual((answers["row"], answers["deal"], answers["clear"], answers["unlet"]),
                         ({"ok"}, {"ok"}, {"ok"}, {"none"}))
        self.assertLess({"none", "own"}, answers["why"])
        self.assertEqual({why.split(" ")[0] for why in answers["why"]}, {"none", "own", "ring", "first", "edges"})
        self.assertEqual(answers["state"], {"new", "going", "waiting", "kept", "broken"})
        self.assertEqual(answers["play"], {"yes", "no"})
        self.assertEqual({answer.split(" ")[0] for answer in answers["weigh"]}, {"unkept", "order", "ring"})

    def test_many_rows_that_lay(self):
        refused = 0
        for seed in range(40):
            chance, desk, second = random.Random(seed), Desk(), SecondDesk()
            for turn in range(200):
                deal = "deal " + chance.choice(["kept:", "kept: x", "x"])
                row = chance.choice([f"row {chance.randint(0, 160)} {turn}"] * 12 + [deal, "rows"])
                wanted = second.say(row)
                self.assertEqual(answer_of(desk, row), wanted, (seed, row))
                refused += wanted == "TooMany"
        self.assertGreater(refused, 200)

    def test_many_turns(self):
        refused = set()
        for seed in range(40):
            chance, desk, second = random.Random(seed), Desk(), SecondDesk()
            for number in range(3):
                row = "deal " + show_program(drawn_program(chance, WORDS, 40))
                self.assertEqual((desk.say(row), second.say(row)), ("ok", "ok"))
            for turn in range(12):
                numbers = [chance.randint(1, 3) for turn in range(chance.randint(1, 120))]
                numbers += [4] * (chance.random() < 0.1)
                row = chance.choice(["rest", "log"] + ["weave " + " ".join(str(number) for number in numbers)] * 8)
                wanted = second.say(row)
                self.assertEqual(answer_of(desk, row), wanted, (seed, row))
                refused.add(wanted)
        self.assertLess({"TooMany", "NoDealing"}, refused)


def rows_of(seed, words=WORDS):
    """Rows of a seed, as drawn with a second account beside."""
    chance, second, rows = random.Random(seed), SecondDesk(), []
    for turn in range(50):
        rows.append(drawn_row(chance, second, words))
        second.say(rows[-1])
    return rows


def changes(row):
    return row.split(" ")[0] in ("row", "deal", "clear", "weave", "rest")


class NothingIsChangedTest(unittest.TestCase):
    def test_what_is_asked_or_refused_may_be_left_out(self):
        for seed in range(150):
            desk, other = Desk(), Desk()
            for row in rows_of(seed):
                answer = answer_of(desk, row)
                if changes(row) and not answer.startswith("No") and answer != "TooMany":
                    self.assertEqual(other.say(row), answer, (seed, row))
            for row in PLAIN[2:]:
                self.assertEqual(other.say(row), desk.say(row), seed)

    def test_asked_twice(self):
        for seed in range(150):
            desk = Desk()
            for row in rows_of(seed):
                answer = answer_of(desk, row)
                if not changes(row):
                    self.assertEqual(answer_of(desk, row), answer, (seed, row))

    def test_two_desks_beside_each_other(self):
        for seed in range(80):
            rows, other_rows = rows_of(seed), rows_of(seed + 1000)
            desk, other, alone, other_alone = Desk(), Desk(), Desk(), Desk()
            both = [(answer_of(desk, row), answer_of(other, other_row)) for row, other_row in zip(rows, other_rows)]
            self.assertEqual([one for one, two in both], [answer_of(alone, row) for row in rows])
            self.assertEqual([two for one, two in both], [answer_of(other_alone, row) for row in other_rows])


def laid_desk(chance, words, dealings=5, most=7):
    """A desk with first rows and dealings, woven and rested; with the rows and programs that it has."""
    desk, programs = Desk(), []
    rows = {key: chance.randint(-2, 9) for key in chance.sample(range(1, 6), chance.randint(0, 5))}
    for key, value in rows.items():
        desk.say(f"row {key} {value}")
    for number in range(chance.randint(1, dealings)):
        programs.append(drawn_program(chance, words, most))
        desk.say("deal " + show_program(programs[-1]))
    for turn in range(chance.randint(0, 6)):
        desk.say("weave " + " ".join(str(chance.randint(1, len(programs))) for turn in range(chance.randint(1, 9))))
    desk.say("rest")
    return desk, rows, programs


def pairs_in(texts):
    return [tuple(int(part) for part in text.split("=")) for text in texts]


class OneAfterTheOtherTest(unittest.TestCase):
    """Point 5, at a desk: at watch and hold alone the programs are run one after the other in the desk's order."""

    def test_they_read_the_same_and_leave_the_same(self):
        many = 0
        for seed in range(500):
            desk, rows, programs = laid_desk(random.Random(seed), [["watch", "hold"], ["watch"], ["hold"]][seed % 3])
            log = [line.split(" ") for line in desk.say("log").split("\n")]
            order = desk.say("order").split(" ") if desk.say("order") != "none" else []
            kept = [number for number in range(1, len(programs) + 1) if desk.say(f"state {number}") == "kept"]
            self.assertEqual(sorted(order), [f"{number}.0" for number in kept])
            stand = dict(rows)
            for spot in order:
                number = spot.split(".")[0]
                looks, stand = run_alone(stand, programs[int(number) - 1][1])
                told = [tuple(pairs_in(line[5:])) for line in log if line[1:3] == [number, "look"]]
                self.assertEqual(looks, told, seed)
            texts = desk.say("rows").split(" ") if desk.say("rows") != "none" else []
            self.assertEqual(sorted(stand.items()), pairs_in(texts), seed)
            many += len(order) > 2
        self.assertGreater(many, 100)


class JudgedTest(unittest.TestCase):
    def test_the_house_is_judged_with_yes(self):
        for seed in range(500):
            desk, rows, programs = laid_desk(random.Random(seed), WORDS, 8, 10)
            self.assertEqual(desk.say("judge").split(" ")[0], "order", seed)
            self.assertEqual(desk.say("play " + desk.say("order")), "yes", seed)
            self.assertEqual(desk.say("play " + desk.say("judge").removeprefix("order ")), "yes", seed)
            self.assertEqual(desk.say("unlet"), "none", seed)

    def test_the_history_weighed_again_as_it_was_judged(self):
        answers = set()
        for seed in range(400):
            desk, rows, programs = laid_desk(random.Random(seed), WORDS if seed % 2 else ["loose", "kept"])
            text = "" if desk.say("history") == "none" else desk.say("history")
            for other in [desk, Desk()]:
                self.assertEqual(other.say("weigh\n" + text), desk.say("judge"), seed)
                for word in WORDS:
                    self.assertEqual(other.say(f"weigh {word}\n" + text), desk.say("judge " + word), (seed, word))
                    answers.add((word, desk.say("judge " + word).split(" ")[0]))
        kinds = ["unkept", "order", "ring"]
        self.assertLessEqual({(word, kind) for word in ["make", "watch", "hold"] for kind in kinds}, answers)
        self.assertNotIn(("loose", "ring"), answers)


if __name__ == "__main__":
    unittest.main()
