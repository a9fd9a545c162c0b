"""Holds: stretches of keys that dealings hold, own or shared, and who stands against whom."""

from skewhouse.errors import Waits
from skewhouse.stretches import meet


def clashes(hold, low, high, own):
    return (hold[2] or own) and meet(hold[0], hold[1], low, high)


class Holds:

    def __init__(self):
        # Under each dealing the list of its holds (low, high, own), in the order in which they were taken.
        self.taken = {}

    def against(self, dealing, low, high, own):
        others = [other for other in sorted(self.taken) if other != dealing]
        return [other for other in others if any([clashes(hold, low, high, own) for hold in self.taken[other]])]

    def take(self, dealing, low, high, own):
        others = self.against(dealing, low, high, own)
        if len(others) > 0:
            raise Waits(dealing, others)
        self.taken.setdefault(dealing, []).append((low, high, own))

    def free(self, dealing):
        self.taken.pop(dealing, None)

    def held(self, dealing):
        return list(self.taken.get(dealing, []))
