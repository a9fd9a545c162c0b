"""Orders of spots, walked: whether one is allowed for a history."""

from skewhouse.shelf import START
from skewhouse.spots import firsts_of, keeps_of, levels_of, spots


def comes_by_places(order):
    reached = {}
    for spot in order:
        if spot[1] < reached.get(spot[0], 0):
            return False
        reached[spot[0]] = spot[1]
    return True


def looks_at(deal, level, place):
    return [look for counted, look in enumerate(deal[2]) if level.look_spot(counted) == place]


def finds(look, makers):
    return all([makers.get(pair[0], START) == pair[1] for pair in look])


def looks_find(past, order, levels):
    deals = dict([(deal[0], deal) for deal in past[0]])
    keeps = keeps_of(past, levels)
    makers = {}
    for spot in order:
        # The looks come ahead of the keep, where both are at this spot.
        looks = looks_at(deals[spot[0]], levels[spot[0]], spot[1])
        if not all([finds(look, makers) for look in looks]):
            return False
        if spot == keeps[spot[0]]:
            makers.update([(made[0], spot[0]) for made in past[1] if spot[0] in made[1]])
    return True


def makes_follow(past, order, levels):
    keeps = keeps_of(past, levels)
    firsts = firsts_of(past, levels)
    # No first spot is behind its keep. So where each maker is kept ahead of the next one's first spot, the makers are
    # kept in this order, and none of them between the first spot and the keep of another.
    for made in past[1]:
        for one, other in zip(made[1], made[1][1:]):
            if order.index(keeps[one]) >= order.index(firsts[other]):
                return False
    return True


def allowed(past, order, word=None):
    levels = levels_of(past, word)
    if sorted(order) != spots(past, word) or not comes_by_places(order):
        return False
    return looks_find(past, order, levels) and makes_follow(past, order, levels)
