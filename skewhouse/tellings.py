"""What houses and judges tell, as texts: rows, reasons, spots, edges, answers and ills."""

from skewhouse.errors import NoNumber, NoRow
from skewhouse.words import number_of, show_parts, written

NONE_TEXT = "none"


def show_pair(pair):
    value = "-" if pair[1] is None else written(pair[1])
    return written(pair[0]) + "=" + value


def show_pairs(pairs):
    return "".join([" " + show_pair(pair) for pair in pairs])


def show_why(why):
    if why is None:
        return NONE_TEXT
    if why[0] == "ring":
        return show_parts(["ring"] + list(why[1]))
    return show_parts(why)


def show_told(told):
    if told[0] == "look":
        return show_parts(told[:3]) + ":" + show_pairs(told[3])
    if told[0] == "kept":
        return "kept:" + show_pairs(told[1])
    if told[0] == "broken":
        return "broken " + show_why(told[1])
    if told[0] == "wait":
        return show_parts(["wait"] + list(told[1]))
    if told[0] == "put" and told[2] is None:
        return show_parts(["take", told[1]])
    return show_parts(told)


def show_row(row):
    return show_parts(row[:2]) + " " + show_told(row[2:])


def show_spot(spot):
    return written(spot[0]) + "." + written(spot[1])


def show_spots(order):
    if len(order) == 0:
        return NONE_TEXT
    return " ".join([show_spot(spot) for spot in order])


def read_spot(text):
    halves = text.partition(".")
    return (number_of(halves[0]), number_of(halves[2]))


def read_spots(text):
    if text == NONE_TEXT:
        return []
    try:
        order = [read_spot(part) for part in text.split(" ")]
    except NoNumber as refusal:
        raise NoRow("a number of a spot is missing or not written so") from refusal
    if any([min(spot) < 0 for spot in order]):
        raise NoRow("a number of a spot is below 0")
    return order


def show_edge(edge):
    middle = ["own"] if edge[2] == "own" else [edge[2], edge[3]]
    return show_parts([show_spot(edge[0])] + middle + [show_spot(edge[1])])


def show_verdict(answer):
    if answer[0] == "order":
        return "order " + show_spots(answer[1])
    if answer[0] == "ring":
        return "ring " + "; ".join([show_edge(edge) for edge in answer[1]])
    return show_parts(answer)


def show_ill(ill):
    return show_parts(ill)
