"""The spots of a history, and its edges: which spot must come ahead of which other one, and why."""

from skewhouse.house import UNKEPT
from skewhouse.levels import level_of
from skewhouse.shelf import START

# In the order in which edges between the same two spots are told.
KINDS = ("own", "saw", "unseen", "over")


def levels_of(past, word):
    if word is not None:
        # Made for its refusal alone: a history without deals would ask for no level.
        level_of(word)
    return dict([(deal[0], level_of(deal[1] if word is None else word)) for deal in past[0]])


def spots_of(deal, level):
    return [(deal[0], place) for place in range(level.spots(len(deal[2])))]


def keeps_of(past, levels):
    return dict([(deal[0], spots_of(deal, levels[deal[0]])[-1]) for deal in past[0]])


def firsts_of(past, levels):
    return dict([(deal[0], (deal[0], levels[deal[0]].first_spot(len(deal[2])))) for deal in past[0]])


def spots(history, word=None):
    levels = levels_of(history, word)
    found = []
    # They rise, as the numbers of the deals do.
    for deal in history[0]:
        found.extend(spots_of(deal, levels[deal[0]]))
    return found


def with_later(things):
    pairs = []
    for place, thing in enumerate(things):
        pairs.extend([(thing, later) for later in things[place + 1:]])
    return pairs


def own_edges(past, levels):
    found = []
    for deal in past[0]:
        pairs = with_later(spots_of(deal, levels[deal[0]]))
        found.extend([(spot, later, "own", None) for spot, later in pairs])
    return found


def pair_edges(spot, key, source, makers, keeps):
    if source == UNKEPT:
        return []
    parted = 0 if source == START else makers.index(source) + 1
    saw = [(keeps[maker], spot, "saw", key) for maker in makers[:parted] if maker != spot[0]]
    unseen = [(spot, keeps[maker], "unseen", key) for maker in makers[parted:] if maker != spot[0]]
    return saw + unseen


def deal_edges(deal, level, makers, keeps):
    found = []
    for counted, look in enumerate(deal[2]):
        place = level.look_spot(counted)
        if place is not None:
            for key, source in look:
                found.extend(pair_edges((deal[0], place), key, source, makers.get(key, []), keeps))
    return found


def look_edges(past, levels):
    makers = dict(past[1])
    keeps = keeps_of(past, levels)
    found = []
    for deal in past[0]:
        found.extend(deal_edges(deal, levels[deal[0]], makers, keeps))
    return found


def over_edges(past, levels):
    keeps = keeps_of(past, levels)
    firsts = firsts_of(past, levels)
    found = []
    for made in past[1]:
        found.extend([(keeps[maker], firsts[later], "over", made[0]) for maker, later in with_later(made[1])])
    return found


def rank(edge):
    return (edge[0], edge[1], KINDS.index(edge[2]), edge[3])


def edges(history, word=None):
    levels = levels_of(history, word)
    found = own_edges(history, levels) + look_edges(history, levels) + over_edges(history, levels)
    # The dict has each of them once: two looks of one spot may give the same edge.
    return sorted(dict([(edge, True) for edge in found]), key=rank)
