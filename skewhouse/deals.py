"""What a dealing keeps: how far it has come, what it has looked at and put, and how it ended."""

from skewhouse.deeds import following
from skewhouse.levels import level_of
from skewhouse.spans import Span

OPEN_PHASES = ("going", "waiting")
END_PHASES = ("kept", "broken")


class Deal:

    def __init__(self, number, program):
        self.number = number
        self.level = level_of(program[0])
        self.deeds = list(program[1])
        self.place = 0
        self.names = {}
        self.phase = "new"
        self.begin = None
        self.why = None
        # The hold (low, high, own) that it asked for last: where it waits, the one that it waits for.
        self.wanted = None
        self.drafts = {}
        # Under each key of the drafts the stamp of the last put or take.
        self.wrote = {}
        # Tuples (stand, low, high, own, drafters): the first four as a span has them, and under each key of the
        # stretch that another dealing had put and not kept, where the look saw it, the number of that dealing.
        self.looks = []

    def has_ended(self):
        return self.phase in END_PHASES

    def is_open(self):
        return self.phase in OPEN_PHASES

    def wake(self, stamp):
        if self.begin is None:
            self.begin = stamp
        self.phase = "going"

    def is_through(self):
        return self.place == len(self.deeds)

    def next_place(self):
        return following(self.deeds[self.place], self.place, self.names, len(self.deeds))

    def write(self, key, value, stamp):
        self.drafts[key] = value
        self.wrote[key] = stamp

    def note_look(self, stand, low, high, drafters):
        self.looks.append((stand, low, high, tuple(self.drafts), drafters))

    def span(self, end):
        # What a loose dealing saw need not be so at any moment, so its looks can close nothing.
        looks = [] if self.level.unkept() else [look[:4] for look in self.looks]
        return Span(self.number, self.level.watches(), self.begin, end, looks, sorted(self.drafts))

    def finish(self, phase, why):
        self.phase = phase
        self.why = why
