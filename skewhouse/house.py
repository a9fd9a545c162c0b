"""The house: dealings that take turns, what comes of each turn, and what is told of it."""

from skewhouse.deals import Deal
from skewhouse.deeds import asked, let_of, told, under
from skewhouse.errors import Broken, NoDealing, Waits
from skewhouse.holds import Holds
from skewhouse.rings import gives_way, ring
from skewhouse.shelf import Shelf
from skewhouse.spans import early, let_in
from skewhouse.stretches import inside, laid
from skewhouse.words import worth

LOOKS = ("read", "sum", "count")
WRITES = ("put", "take")
UNKEPT = -1


def drafters_of(others, low, high):
    # No two of them have one key: each key of the drafts is held as own.
    drafters = {}
    for other in others:
        for key in other.drafts:
            if inside(key, low, high):
                drafters[key] = other.number
    return drafters


class House:

    def __init__(self, rows, programs):
        self.shelf = Shelf(rows)
        self.holds = Holds()
        self.deals = [Deal(number, program) for number, program in enumerate(programs, start=1)]
        # The spans of the kept dealings, in the order in which they were kept.
        self.spans = []
        self.stamp = 0
        self.told_rows = []

    def step(self, number):
        deal = self.deal_of(number)
        before = len(self.told_rows)
        self.stamp += 1
        if deal.has_ended():
            self.tell(deal, ("idle",))
        else:
            self.attempt(deal)
        return self.told_rows[before:]

    def weave(self, numbers):
        # All numbers are asked for ahead of the first turn.
        deals = [self.deal_of(number) for number in numbers]
        before = len(self.told_rows)
        for deal in deals:
            self.step(deal.number)
        return self.told_rows[before:]

    def rest(self):
        before = len(self.told_rows)
        while not all([deal.has_ended() for deal in self.deals]):
            for deal in self.deals:
                # Asked at its turn, for one ahead of it in this round may have broken it off.
                if not deal.has_ended():
                    self.step(deal.number)
        return self.told_rows[before:]

    def log(self):
        return list(self.told_rows)

    def rows(self):
        return self.shelf.there(self.stamp)

    def state(self, number):
        return self.deal_of(number).phase

    def reason(self, number):
        return self.deal_of(number).why

    def level_word(self, number):
        return self.deal_of(number).level.word()

    def looked(self, number):
        deal = self.deal_of(number)
        if deal.phase != "kept":
            return []
        return [self.pairs_of(look) for look in deal.looks]

    def made(self):
        keys = []
        for span in self.spans:
            keys.extend(span.puts)
        return [(key, self.shelf.makers(key)) for key in sorted(set(keys))]

    def order(self):
        spots = []
        for span in self.spans:
            deal = self.deal_of(span.number)
            stands = [look[0] for look in deal.looks]
            stamps = deal.level.stamps(span.begin, stands, span.end, early(span, self.spans))
            spots.extend([(stamp, span.number, place) for place, stamp in enumerate(stamps)])
        return [spot[1:] for spot in sorted(spots)]

    def deal_of(self, number):
        # The words don't tell the number: it may have too many figures for str.
        if number < 1 or number > len(self.deals):
            raise NoDealing("no dealing has that number")
        return self.deals[number - 1]

    def tell(self, deal, parts):
        self.told_rows.append((self.stamp, deal.number) + parts)

    def attempt(self, deal):
        deal.wake(self.stamp)
        try:
            self.act(deal)
        except Broken as refusal:
            self.break_off(deal, refusal.why)
        except Waits as refusal:
            self.wait(deal, refusal.others)

    def act(self, deal):
        if deal.is_through():
            self.keep(deal)
            return
        deed = deal.deeds[deal.place]
        if deed[0] in LOOKS:
            self.look(deal, deed)
        elif deed[0] in WRITES:
            self.write(deal, deed)
        elif deed[0] == "let":
            self.let(deal, deed)
        else:
            self.go(deal, deed)
        deal.place = deal.next_place()

    def look(self, deal, deed):
        stretch = asked(deed, deal.names)
        low = stretch[0]
        high = stretch[1]
        if deal.level.holds_asks():
            self.take(deal, low, high, False)
        stand = deal.level.stand(deal.begin, self.stamp)
        others = self.seen_unkept(deal)
        seen = self.shelf.rows(low, high, stand)
        for other in others:
            seen = laid(seen, other.drafts, low, high)
        seen = laid(seen, deal.drafts, low, high)
        deal.note_look(stand, low, high, drafters_of(others, low, high))
        deal.names[deed[1]] = told(deed, seen)
        self.tell(deal, ("look", low, high, tuple(seen)))

    def seen_unkept(self, deal):
        if not deal.level.unkept():
            return []
        return [other for other in self.deals if other.is_open() and other.number != deal.number]

    def write(self, deal, deed):
        key = worth(deed[1], deal.names)
        value = worth(deed[2], deal.names) if deed[0] == "put" else None
        newest = self.shelf.newest(key)
        if deal.level.late(deal.begin, newest[0]):
            raise Broken(deal.number, ("first", key, newest[1]))
        self.take(deal, key, key, True)
        deal.write(key, value, self.stamp)
        self.tell(deal, ("put", key, value))

    def let(self, deal, deed):
        deal.names[deed[1]] = let_of(deed, deal.names)
        self.tell(deal, ("let", deed[1], deal.names[deed[1]]))

    def go(self, deal, deed):
        if deed[0] == "stop" and under(deed, deal.names):
            raise Broken(deal.number, ("own",))
        self.tell(deal, ("go", deal.next_place()))

    def keep(self, deal):
        self.spans = let_in(self.spans, deal.span(self.stamp))
        self.shelf.put(self.stamp, deal.number, deal.drafts)
        self.holds.free(deal.number)
        deal.finish("kept", None)
        self.tell(deal, ("kept", tuple([(key, deal.drafts[key]) for key in sorted(deal.drafts)])))

    def break_off(self, deal, why):
        self.holds.free(deal.number)
        deal.finish("broken", why)
        self.tell(deal, ("broken", why))

    def take(self, deal, low, high, own):
        # Kept ahead of the taking, which may be refused: then the dealing waits for just this hold.
        deal.wanted = (low, high, own)
        self.holds.take(deal.number, low, high, own)

    def wait(self, deal, others):
        deal.phase = "waiting"
        chain = ring(self.waits(), deal.number)
        if chain is None:
            self.tell(deal, ("wait", tuple(others)))
            return
        last = self.deal_of(gives_way(chain, self.begins()))
        self.break_off(last, ("ring", tuple(chain)))
        if last.number != deal.number:
            self.attempt(deal)

    def waits(self):
        # Asked anew each time: who holds what may have changed since they began to wait.
        waiting = [deal for deal in self.deals if deal.phase == "waiting"]
        return dict([(deal.number, self.in_the_way(deal)) for deal in waiting])

    def in_the_way(self, deal):
        return self.holds.against(deal.number, deal.wanted[0], deal.wanted[1], deal.wanted[2])

    def begins(self):
        return dict([(deal.number, deal.begin) for deal in self.deals if deal.begin is not None])

    def pairs_of(self, look):
        keys = sorted(set(self.shelf.touched(look[1], look[2]) + list(look[4])))
        return [(key, self.source_of(key, look)) for key in keys if key not in look[3]]

    def source_of(self, key, look):
        if key not in look[4]:
            return self.shelf.make(key, look[0])[1]
        drafter = self.deal_of(look[4][key])
        # A look that sees drafts stands at its own turn's stamp, so what was put again has a greater one.
        if drafter.phase == "kept" and drafter.wrote[key] < look[0]:
            return drafter.number
        return UNKEPT
