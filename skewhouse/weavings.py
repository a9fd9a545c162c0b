"""Weavings of counts: how many there are, all of them, and the first with which a wish comes true."""

from skewhouse.errors import TooMany
from skewhouse.house import House
from skewhouse.levels import level_of

MOST_WEAVINGS = 2000


def how_many(counts):
    many = 1
    turns = 0
    for count in counts:
        for place in range(1, count + 1):
            turns += 1
            # It divides evenly: these are the weavings of the earlier counts and of `place` turns of this one.
            many = many * turns // place
    return many


def least_weaving(counts):
    weaving = []
    for number, count in enumerate(counts, start=1):
        weaving.extend([number] * count)
    return weaving


def next_weaving(weaving):
    place = len(weaving) - 2
    while place >= 0 and weaving[place] >= weaving[place + 1]:
        place -= 1
    if place < 0:
        return None
    # What stands behind the place falls, so with the same numbers up to it there is no greater weaving.
    tail = weaving[place:]
    greater = min([number for number in tail if number > tail[0]])
    tail.remove(greater)
    return weaving[:place] + [greater] + sorted(tail)


def weavings(counts):
    if how_many(counts) > MOST_WEAVINGS:
        raise TooMany("there are more weavings than are told")
    found = []
    weaving = least_weaving(counts)
    while weaving is not None:
        found.append(weaving)
        weaving = next_weaving(weaving)
    return found


def first_weaving(rows, programs, wish):
    # Copies, because the wish may change what was handed in, and each house is to be made of what it was.
    first_rows = dict(rows)
    copies = [(program[0], list(program[1])) for program in programs]
    for program in copies:
        # Made for its refusal alone, which is due ahead of TooMany.
        level_of(program[0])
    for weaving in weavings([len(program[1]) + 1 for program in copies]):
        house = House(first_rows, copies)
        house.weave(weaving)
        house.rest()
        if wish(house):
            return weaving
    return None
