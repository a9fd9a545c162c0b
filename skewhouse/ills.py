"""The ills of a history, of four kinds, and which of them the levels let."""

from skewhouse.house import UNKEPT
from skewhouse.shelf import START

# The levels that let a make be lost and looks be midway, and those that together let nothing be skewed.
LOW_WORDS = ("loose", "kept")
WHOLE_WORDS = ("watch", "hold")


def sources_of(deal):
    # Under each key the sources with which the dealing's looks have it.
    found = {}
    for look in deal[2]:
        for key, source in look:
            found.setdefault(key, []).append(source)
    return found


def right_of(number, makers):
    place = makers.index(number)
    return START if place == 0 else makers[place - 1]


def lost_of(number, sources, makes):
    found = []
    for key, makers in makes:
        if number in makers:
            right = right_of(number, makers)
            if any([source != right for source in sources.get(key, [])]):
                found.append(("lost", number, right, key))
    return found


def midway_of(number, sources):
    return [("midway", number, key) for key in sources if len(set(sources[key])) > 1]


def unkept_of(number, sources):
    return [("unkept", number, key) for key in sources if UNKEPT in sources[key]]


def is_ahead(source, maker, makers):
    return source == START or source in makers[:makers.index(maker)]


def missed(sources, other, makes):
    # The keys whose make by the other one some look came ahead of; rising, as the makes do.
    made = [(key, makers) for key, makers in makes if other in makers]
    return [key for key, makers in made if any([is_ahead(each, other, makers) for each in sources.get(key, [])])]


def skewed_of(one, other, sources, makes):
    keys = missed(sources[one], other, makes)
    other_keys = missed(sources[other], one, makes)
    for key in keys:
        for other_key in other_keys:
            if key != other_key:
                return [("skewed", one, other, key, other_key)]
    return []


def ills(past):
    sources = dict([(deal[0], sources_of(deal)) for deal in past[0]])
    found = []
    for number in sources:
        found.extend(lost_of(number, sources[number], past[1]))
        found.extend(midway_of(number, sources[number]))
        found.extend(unkept_of(number, sources[number]))
        for other in [each for each in sources if number < each]:
            found.extend(skewed_of(number, other, sources, past[1]))
    return sorted(found)


def is_let(ill, words):
    if ill[0] == "skewed":
        return words[ill[1]] not in WHOLE_WORDS or words[ill[2]] not in WHOLE_WORDS
    if ill[0] == "unkept":
        return words[ill[1]] == "loose"
    return words[ill[1]] in LOW_WORDS


def unlet(past):
    words = dict([(deal[0], deal[1]) for deal in past[0]])
    return [ill for ill in ills(past) if not is_let(ill, words)]
