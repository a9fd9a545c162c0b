"""The desk: told rows of text that lay things, weave, ask and weigh, and answering each with a text."""

from skewhouse.errors import NoNumber, NoRow, TooMany
from skewhouse.histories import MOST_DEALS, history, read_history, show_history
from skewhouse.house import House
from skewhouse.ills import ills, unlet
from skewhouse.judge import judge
from skewhouse.levels import level_of
from skewhouse.plays import allowed
from skewhouse.programs import read_program
from skewhouse.tellings import NONE_TEXT, read_spots, show_ill, show_pair, show_row, show_spots, show_verdict, show_why
from skewhouse.words import number_of

MOST_FIRST_ROWS = 100
MOST_TURNS = 400
LAID = "ok"


def numbers_of(text):
    try:
        return [number_of(part) for part in text.split(" ")]
    except NoNumber as refusal:
        raise NoRow("a number is missing or not written so") from refusal


def one_number(text):
    numbers = numbers_of(text)
    if len(numbers) != 1:
        raise NoRow("one number is asked for")
    return numbers[0]


def or_none(text):
    return NONE_TEXT if text == "" else text


def show_rows(rows):
    return or_none("\n".join([show_row(row) for row in rows]))


def show_ills(found):
    return or_none("; ".join([show_ill(ill) for ill in found]))


def answer_rows(house):
    return or_none(" ".join([show_pair(pair) for pair in house.rows()]))


def answer_log(house):
    return show_rows(house.log())


def answer_order(house):
    return show_spots(house.order())


def answer_history(house):
    return or_none(show_history(history(house)))


def answer_judge(house):
    return answer_judge_at(house, None)


def answer_ills(house):
    return show_ills(ills(history(house)))


def answer_unlet(house):
    return show_ills(unlet(history(house)))


def answer_state(house, text):
    return house.state(one_number(text))


def answer_why(house, text):
    return show_why(house.reason(one_number(text)))


def answer_judge_at(house, word):
    return show_verdict(judge(history(house), word))


def answer_play(house, text):
    order = read_spots(text)
    return "yes" if allowed(history(house), order) else "no"


# What is asked of a house by a word alone, and by a word with a blank and something more behind it.
ASKS = {
    "rows": answer_rows,
    "log": answer_log,
    "order": answer_order,
    "history": answer_history,
    "judge": answer_judge,
    "ills": answer_ills,
    "unlet": answer_unlet,
}
ASKS_WITH_MORE = {
    "state": answer_state,
    "why": answer_why,
    "judge": answer_judge_at,
    "play": answer_play,
}


def is_weigh(row):
    return row.startswith("weigh\n") or (row.startswith("weigh ") and "\n" in row)


def weigh(row):
    halves = row.partition("\n")
    head = halves[0].partition(" ")
    word = None if head[1] == "" else head[2]
    if word is not None:
        # Made for its refusal alone, which is due ahead of NoHistory.
        level_of(word)
    return show_verdict(judge(read_history(halves[2]), word))


class Desk:

    def __init__(self):
        self.begin_anew()

    def say(self, row):
        if row in ASKS:
            return ASKS[row](self.house_by_now())
        if row == "clear":
            self.begin_anew()
            return LAID
        if row == "rest":
            return self.rest()
        if is_weigh(row):
            return weigh(row)
        halves = row.partition(" ")
        if halves[1] == "":
            raise NoRow("the row has none of the forms")
        return self.say_with_more(halves[0], halves[2])

    def say_with_more(self, word, text):
        if word in ASKS_WITH_MORE:
            return ASKS_WITH_MORE[word](self.house_by_now(), text)
        if word == "weave":
            return self.weave(numbers_of(text))
        if word == "row":
            return self.lay_row(numbers_of(text))
        if word == "deal":
            return self.lay_deal(text)
        raise NoRow("the row has none of the forms")

    def begin_anew(self):
        self.first_rows = {}
        self.programs = []
        # None as long as nothing is begun.
        self.house = None
        # The turns of the `weave` rows alone.
        self.turns = 0

    def house_by_now(self):
        if self.house is None:
            return House(self.first_rows, self.programs)
        return self.house

    def must_not_be_begun(self):
        if self.house is not None:
            raise NoRow("nothing is laid behind the first turn")

    def lay_row(self, numbers):
        if len(numbers) != 2:
            raise NoRow("a key and a value are asked for")
        self.must_not_be_begun()
        if numbers[0] not in self.first_rows and len(self.first_rows) >= MOST_FIRST_ROWS:
            raise TooMany("there are first rows enough")
        self.first_rows[numbers[0]] = numbers[1]
        return LAID

    def lay_deal(self, text):
        self.must_not_be_begun()
        if len(self.programs) >= MOST_DEALS:
            raise TooMany("there are dealings enough")
        self.programs.append(read_program(text))
        return LAID

    def weave(self, numbers):
        turns = self.turns + len(numbers)
        if turns > MOST_TURNS:
            raise TooMany("there would be more turns than are woven")
        house = self.house_by_now()
        told = house.weave(numbers)
        # Kept only now: where a number is refused, the desk is not begun.
        self.house = house
        self.turns = turns
        return show_rows(told)

    def rest(self):
        self.house = self.house_by_now()
        return show_rows(self.house.rest())
