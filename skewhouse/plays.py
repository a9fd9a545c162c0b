"""Orders of spots, walked: whether one is allowed for a history."""

from skewhouse.levels import level_of
from skewhouse.shelf import START


def levels_of(past, word):
    return dict([(deal[0], level_of(deal[1] if word is None else word)) for deal in past[0]])


def spots_of(past, levels):
    # They rise, as the numbers of the deals do.
    spots = []
    for deal in past[0]:
        many = levels[deal[0]].spots(len(deal[2]))
        spots.extend([(deal[0], place) for place in range(many)])
    return spots


def comes_by_places(order):
    reached = {}
    for spot in order:
        if spot[1] < reached.get(spot[0], 0):
            return False
        reached[spot[0]] = spot[1]
    return True


def looks_at(deal, level, place):
    return [look for counted, look in enumerate(deal[2]) if level.look_spot(counted) == place]


def finds(look, makers):
    return all([makers.get(pair[0], START) == pair[1] for pair in look])


def looks_find(past, order, levels):
    deals = dict([(deal[0], deal) for deal in past[0]])
    makers = {}
    for spot in order:
        deal = deals[spot[0]]
        level = levels[spot[0]]
        # The looks come ahead of the keep, where both are at this spot.
        if not all([finds(look, makers) for look in looks_at(deal, level, spot[1])]):
            return False
        if spot[1] == level.spots(len(deal[2])) - 1:
            makers.update([(made[0], spot[0]) for made in past[1] if spot[0] in made[1]])
    return True


def makes_follow(past, order, levels):
    firsts = {}
    keeps = {}
    for deal in past[0]:
        level = levels[deal[0]]
        firsts[deal[0]] = order.index((deal[0], level.first_spot(len(deal[2]))))
        keeps[deal[0]] = order.index((deal[0], level.spots(len(deal[2])) - 1))
    # No first spot is behind its keep. So where each maker is kept ahead of the next one's first spot, the makers are
    # kept in this order, and none of them between the first spot and the keep of another.
    for made in past[1]:
        if not all([keeps[one] < firsts[other] for one, other in zip(made[1], made[1][1:])]):
            return False
    return True


def allowed(past, order, word=None):
    if word is not None:
        # Made for its refusal alone: a history without deals would ask for no level.
        level_of(word)
    levels = levels_of(past, word)
    if sorted(order) != spots_of(past, levels) or not comes_by_places(order):
        return False
    return looks_find(past, order, levels) and makes_follow(past, order, levels)
