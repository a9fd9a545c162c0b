"""Nodes and pairs of nodes: an order in which each pair's one node comes ahead of the other, and the least ring."""

from skewhouse.rings import ring


def followers(nodes, pairs):
    # Of each node those that must come behind it, rising, each once.
    behind = dict([(node, []) for node in nodes])
    for one, other in sorted(set(pairs)):
        behind[one].append(other)
    return behind


def how_many_ahead(behind):
    ahead = dict([(node, 0) for node in behind])
    for others in behind.values():
        for other in others:
            ahead[other] += 1
    return ahead


def order_of(nodes, pairs):
    behind = followers(nodes, pairs)
    ahead = how_many_ahead(behind)
    free = [node for node in nodes if ahead[node] == 0]
    order = []
    while len(free) > 0:
        least = min(free)
        free.remove(least)
        order.append(least)
        for other in behind[least]:
            ahead[other] -= 1
            if ahead[other] == 0:
                free.append(other)
    # Nodes of a ring, and those behind one, never come free.
    return order if len(order) == len(nodes) else None


def least_ring(nodes, pairs):
    behind = followers(nodes, pairs)
    rings = [ring(behind, node) for node in sorted(nodes)]
    # The first of the fewest is the least: no node of it is less than the one it begins with, or a ring of as few
    # nodes would have been found from that one on.
    return min([found for found in rings if found is not None], key=len, default=None)
