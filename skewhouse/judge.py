"""The judge: of a history an order that the levels allow, or a read of what was never kept, or a ring."""

from skewhouse.graphs import least_ring, order_of
from skewhouse.house import UNKEPT
from skewhouse.spots import edges, levels_of, spots


def unkept(history, word=None):
    levels = levels_of(history, word)
    # Dealings, looks and keys are handed in by their order: the first that is met is the first one.
    for deal in [each for each in history[0] if not levels[each[0]].unkept()]:
        for place, look in enumerate(deal[2]):
            for key, source in look:
                if source == UNKEPT:
                    return (deal[0], place, key)
    return None


def ring_edges(ring, told):
    firsts = {}
    for edge in told:
        firsts.setdefault((edge[0], edge[1]), edge)
    return [firsts[pair] for pair in zip(ring, ring[1:] + ring[:1])]


def judge(history, word=None):
    read = unkept(history, word)
    if read is not None:
        return ("unkept",) + read
    nodes = spots(history, word)
    told = edges(history, word)
    pairs = [(edge[0], edge[1]) for edge in told]
    order = order_of(nodes, pairs)
    if order is not None:
        return ("order", order)
    return ("ring", ring_edges(least_ring(nodes, pairs), told))
