"""Histories: of kept dealings who read whose make of which key, told of a house, shown and read."""

from skewhouse.errors import NoHistory, NoNumber
from skewhouse.house import UNKEPT
from skewhouse.shelf import START
from skewhouse.words import is_level, number_of, written

MOST_DEALS = 8


def history(house):
    # Each kept dealing has a spot in the order, and no other one has.
    numbers = sorted(set([spot[0] for spot in house.order()]))
    deals = [(number, house.level_word(number), house.looked(number)) for number in numbers]
    return (deals, house.made())


def show_pair(pair):
    source = "?" if pair[1] == UNKEPT else written(pair[1])
    return written(pair[0]) + "<" + source


def show_look(look):
    if len(look) == 0:
        return "-"
    return " ".join([show_pair(pair) for pair in look])


def show_deal(deal):
    head = written(deal[0]) + " " + deal[1] + ":"
    if len(deal[2]) == 0:
        return head
    return head + " " + "; ".join([show_look(look) for look in deal[2]])


def show_make(made):
    return "make " + written(made[0]) + ":" + "".join([" " + written(number) for number in made[1]])


def show_history(past):
    return "\n".join([show_deal(deal) for deal in past[0]] + [show_make(made) for made in past[1]])


def read_pair(text):
    halves = text.partition("<")
    source = UNKEPT if halves[2] == "?" else number_of(halves[2])
    return (number_of(halves[0]), source)


def read_look(text):
    if text == "-":
        return []
    return [read_pair(part) for part in text.split(" ")]


def read_deal(row):
    halves = row.partition(": ")
    head = halves[0].rstrip(":").partition(" ")
    looks = [read_look(part) for part in halves[2].split("; ")] if halves[1] != "" else []
    return (number_of(head[0]), head[2], looks)


def read_make(row):
    halves = row.partition(": ")
    key = number_of(halves[0].partition(" ")[2])
    return (key, [number_of(part) for part in halves[2].split(" ")])


def read_rows(text):
    rows = text.split("\n") if text != "" else []
    deals = [read_deal(row) for row in rows if not row.startswith("make")]
    makes = [read_make(row) for row in rows if row.startswith("make")]
    return (deals, makes)


def rise(numbers):
    return all([one < other for one, other in zip(numbers, numbers[1:])])


def is_source(source, key, number, makers):
    return source in (START, UNKEPT) or (source != number and source in makers.get(key, []))


def is_look(look, number, makers):
    return rise([pair[0] for pair in look]) and all([is_source(pair[1], pair[0], number, makers) for pair in look])


def is_deal(deal, makers):
    in_bounds = 1 <= deal[0] <= MOST_DEALS
    return in_bounds and is_level(deal[1]) and all([is_look(look, deal[0], makers) for look in deal[2]])


def is_make(made, numbers):
    each_once = len(set(made[1])) == len(made[1])
    return each_once and all([number in numbers for number in made[1]])


def is_history(past):
    numbers = [deal[0] for deal in past[0]]
    if not rise(numbers) or not rise([made[0] for made in past[1]]):
        return False
    makers = dict(past[1])
    return all([is_deal(deal, makers) for deal in past[0]]) and all([is_make(made, numbers) for made in past[1]])


def read_history(text):
    try:
        past = read_rows(text)
    except NoNumber as refusal:
        raise NoHistory("a number is missing or not written so") from refusal
    # The text is to be the very one that is shown: so makes ahead of deals, or `5<-1`, are refused here.
    if not is_history(past) or show_history(past) != text:
        raise NoHistory("the text is not one of a history")
    return past
