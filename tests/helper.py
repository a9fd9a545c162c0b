"""What several tests share: houses of texts, houses and histories drawn by a seed, and second accounts.

Account plays the turns over again, by points 52 to 58, with nothing of the package; Told tells of the rows of a log
what a house is to tell by points 57 and 59. The spots, edges, allowed orders and rings of a history are told over again
from the words of points 51, 65 and 72 to 77, its ills from those of 83 and 84, the texts of histories, rows and answers
from those of 63, 64, 91 and 92, with nothing of the package either. run_alone runs a program by itself.
"""

import itertools
import random
import re

from skewhouse.deeds import following, let_of, told, under
from skewhouse.house import House
from skewhouse.programs import read_program
from skewhouse.words import worth

WORDS = ["loose", "kept", "make", "watch", "hold"]
NO_WORDS = ["", "none", "Watch", "watch ", " kept", "wat", "held", "read", "loosekept", "0", "?"]

# What is written as numbers, and the rows of a history's text.
NUMBER = r"(?:0|-?[1-9][0-9]{0,29})"
PAIR = NUMBER + r"<(?:\?|" + NUMBER + ")"
LOOK = "(?:-|" + PAIR + "(?: " + PAIR + ")*)"
DEAL = re.compile(rf"({NUMBER}) (loose|kept|make|watch|hold):(?: ({LOOK}(?:; {LOOK})*))?")
MAKE = re.compile(rf"make ({NUMBER}):((?: {NUMBER})+)")


def programs_of(*texts):
    return [read_program(text) for text in texts]


def house_of(rows, *texts):
    return House(rows, programs_of(*texts))


def woven(rows, texts, numbers):
    house = house_of(rows, *texts)
    house.weave(numbers)
    return house


def drawn_key(chance):
    return chance.choice(["a", "b"]) if chance.random() < 0.15 else chance.randint(1, 5)


def drawn_worth(chance):
    return chance.choice(["a", "b", "c", "z"]) if chance.random() < 0.7 else chance.randint(-3, 6)


def drawn_deed(chance):
    letter, low = chance.choice("abc"), chance.randint(0, 5)
    deeds = [("read", letter, drawn_key(chance))] * 3
    deeds += [(chance.choice(["sum", "count"]), letter, low, low + chance.randint(-1, 4))] * 2
    deeds += [("put", drawn_key(chance), drawn_worth(chance))] * 5 + [("take", drawn_key(chance))] * 2
    deeds += [("let", letter, drawn_worth(chance), chance.choice("+-"), drawn_worth(chance))]
    deeds += [("skip", drawn_worth(chance), drawn_worth(chance), chance.randint(1, 3))]
    if chance.random() < 0.3:
        deeds += [("stop", drawn_worth(chance), drawn_worth(chance))]
    return chance.choice(deeds)


def drawn_program(chance, words, most):
    return (chance.choice(words), [drawn_deed(chance) for turn in range(chance.randint(0, most))])


def drawn(seed, words=WORDS, dealings=5, most=7):
    """First rows, programs and a weaving, all by the seed alone."""
    chance = random.Random(seed)
    rows = {key: chance.randint(-2, 9) for key in chance.sample(range(1, 6), chance.randint(0, 5))}
    programs = [drawn_program(chance, words, most) for number in range(chance.randint(1, dealings))]
    weaving = [chance.randint(1, len(programs)) for turn in range(chance.randint(0, 6 * len(programs)))]
    return rows, programs, weaving


def drawn_house(seed, words=WORDS, dealings=5, most=7):
    """A house of the seed, woven and rested."""
    rows, programs, weaving = drawn(seed, words, dealings, most)
    house = House(rows, programs)
    house.weave(weaving)
    house.rest()
    return house


def drawn_history(chance, unkept=(-1,)):
    """A history, whether any order is allowed for it or not; with unkept as () none of its reads is of what was never kept."""
    numbers = sorted(chance.sample(range(1, 9), chance.randint(0, 4)))
    keys = sorted(chance.sample(range(-3, 12), 5))
    makes = []
    for key in keys:
        makers = chance.sample(numbers, chance.randint(0, len(numbers)))
        makes += [(key, makers)] if makers else []
    deals = []
    for number in numbers:
        looks = []
        for place in range(chance.randint(0, 3)):
            look = []
            for key in sorted(chance.sample(keys, chance.randint(0, 3))):
                makers = [maker for maker in dict(makes).get(key, []) if maker != number]
                look.append((key, chance.choice([0, *unkept] + makers)))
            looks.append(look)
        deals.append((number, chance.choice(WORDS), looks))
    return (deals, makes)


def least_ring(waits, start):
    """Of all rings of unlike dealings from the start the shortest, of these the least."""
    others = [number for number in waits if number != start]
    for many in range(1, len(others) + 1):
        for rest in sorted(itertools.permutations(others, many)):
            chain = (start,) + rest
            if all(after in waits[before] for before, after in zip(chain, chain[1:] + (start,))):
                return chain
    return None


def spots_of(past, word=None):
    """A second account of the spots of a history."""
    found = []
    for number, own, looks in past[0]:
        many = {"loose": 1, "kept": len(looks) + 1, "make": 2, "watch": 1, "hold": 1}[word or own]
        found += [(number, place) for place in range(many)]
    return found


def keep_of(past, number, word=None):
    return max(spot for spot in spots_of(past, word) if spot[0] == number)


def first_of(past, number, word=None):
    late = [each for each, own, looks in past[0] if (word or own) in ("loose", "kept")]
    return keep_of(past, number, word) if number in late else (number, 0)


def pairs_at(past, spot, word=None):
    """All pairs of the looks whose spot this is."""
    found = []
    for number, own, looks in past[0]:
        for counted, look in enumerate(looks):
            place = {"loose": None, "kept": counted}.get(word or own, 0)
            found += look if (number, place) == spot else []
    return found


def is_allowed(past, order, word=None):
    """A second account of point 65, sentence by sentence."""
    if len(set(order)) < len(order) or set(order) != set(spots_of(past, word)):
        return False
    numbers = [deal[0] for deal in past[0]]
    for number in numbers:
        places = [place for each, place in order if each == number]
        if places != sorted(places):
            return False
    keeps = {number: order.index(keep_of(past, number, word)) for number in numbers}
    last = {}
    for at, spot in enumerate(order):
        if any(last.get(key, 0) != source for key, source in pairs_at(past, spot, word)):
            return False
        if keeps[spot[0]] == at:
            last.update({key: spot[0] for key, makers in past[1] if spot[0] in makers})
    for key, makers in past[1]:
        if sorted(makers, key=keeps.get) != makers:
            return False
        for one, other in itertools.permutations(makers, 2):
            if order.index(first_of(past, one, word)) <= keeps[other] <= keeps[one]:
                return False
    return True


def is_edge(past, edge, word=None):
    """Whether a tuple of two spots, a kind and a key is an edge of the history, by the words of point 72."""
    spot, other, why, key = edge
    if why == "own":
        return key is None and spot[0] == other[0] and spot[1] < other[1]
    makers = dict(past[1]).get(key, [])
    if spot[0] == other[0]:
        return False
    places = {maker: place for place, maker in enumerate(makers, start=1)}
    places[0] = 0
    if why == "saw":
        sources = [source for each, source in pairs_at(past, other, word) if each == key and source > 0]
        by_keep = spot[0] in makers and spot == keep_of(past, spot[0], word)
        return by_keep and any(places[spot[0]] <= places[source] for source in sources)
    if why == "unseen":
        sources = [source for each, source in pairs_at(past, spot, word) if each == key and source >= 0]
        by_keep = other[0] in makers and other == keep_of(past, other[0], word)
        return by_keep and any(places[other[0]] > places[source] for source in sources)
    if spot[0] not in makers or other[0] not in makers or places[spot[0]] > places[other[0]]:
        return False
    return spot == keep_of(past, spot[0], word) and other == first_of(past, other[0], word)


def edges_of(past, word=None):
    """A second account of points 72 and 73: all that might be an edge, in their order, each asked whether it is one."""
    keys = sorted({key for deal in past[0] for look in deal[2] for key, source in look} | set(dict(past[1])))
    kinds = [("own", None)] + [(why, key) for why in ("saw", "unseen", "over") for key in keys]
    spots = spots_of(past, word)
    found = [(spot, other) + kind for spot in spots for other in spots for kind in kinds]
    return [edge for edge in found if is_edge(past, edge, word)]


def least_order(nodes, pairs):
    """A second account of point 74: always the least of those ahead of which no node is still to come."""
    left, order = set(nodes), []
    while left:
        held = {other for one, other in pairs if one in left}
        if left <= held:
            return None
        order.append(min(left - held))
        left.remove(order[-1])
    return order


def ring_from(chain, many, pairs):
    """The least ring of so many nodes that goes on from the chain, all behind its first node greater than that one."""
    if len(chain) == many:
        return chain if (chain[-1], chain[0]) in pairs else None
    for other in sorted({other for one, other in pairs if one == chain[-1]}):
        found = ring_from(chain + [other], many, pairs) if other > chain[0] and other not in chain else None
        if found is not None:
            return found
    return None


def fewest_ring(nodes, pairs):
    """A second account of point 75: from two nodes on, and from the least first node on."""
    for many in range(2, len(nodes) + 1):
        for node in sorted(nodes):
            found = ring_from([node], many, set(pairs))
            if found is not None:
                return found
    return None


def first_unkept(past, word=None):
    found = []
    for number, own, looks in past[0]:
        for place, look in enumerate(looks):
            found += [(number, place, key) for key, source in look if source == -1 and (word or own) != "loose"]
    return min(found, default=None)


def second_judge(past, word=None):
    """A second account of points 76 and 77."""
    unkept = first_unkept(past, word)
    if unkept is not None:
        return ("unkept", *unkept)
    spots, edges = spots_of(past, word), edges_of(past, word)
    pairs = [edge[:2] for edge in edges]
    order = least_order(spots, pairs)
    if order is not None:
        return ("order", order)
    ring = fewest_ring(spots, pairs)
    return ("ring", [next(edge for edge in edges if edge[:2] == pair) for pair in zip(ring, ring[1:] + ring[:1])])


def sources_of(past, number, key):
    """The sources with which the looks of a dealing have the key."""
    looks = [look for each, word, looks in past[0] if each == number for look in looks]
    return [source for look in looks for each, source in look if each == key]


def comes_ahead(past, number, key, maker):
    """Whether a look of the dealing has the key, which the maker made, with a source ahead of that make."""
    makers = [0] + dict(past[1]).get(key, [])
    return maker in makers and any(source in makers[:makers.index(maker)] for source in sources_of(past, number, key))


def is_ill(past, ill):
    """Whether a tuple is an ill of the history, by the words of point 83; of several skewed ones each."""
    kind, d, key = ill[0], ill[1], ill[-1]
    if kind == "lost":
        makers = [0] + dict(past[1]).get(key, [])
        follows = (ill[2], d) in list(zip(makers, makers[1:]))
        return follows and any(source != ill[2] for source in sources_of(past, d, key))
    if kind == "midway":
        return any(one != other for one, other in itertools.combinations(sources_of(past, d, key), 2))
    if kind == "unkept":
        return any(source == -1 for source in sources_of(past, d, key))
    one, other, key, other_key = ill[1:]
    both = comes_ahead(past, one, key, other) and comes_ahead(past, other, other_key, one)
    return one < other and key != other_key and both


def ills_of(past):
    """A second account of point 83: all that might be an ill, each asked whether it is one."""
    numbers = [deal[0] for deal in past[0]]
    keys = {key for deal in past[0] for look in deal[2] for key, source in look} | set(dict(past[1]))
    found = [("lost", d, right, key) for d in numbers for right in [0] + numbers for key in keys]
    found += [(kind, d, key) for kind in ("midway", "unkept") for d in numbers for key in keys]
    found = [ill for ill in found if is_ill(past, ill)]
    for one, other in itertools.combinations(numbers, 2):
        skewed = [("skewed", one, other, *pair) for pair in itertools.permutations(keys, 2)]
        found += sorted(ill for ill in skewed if is_ill(past, ill))[:1]
    return sorted(found)


def unlet_of(past):
    """A second account of point 84."""
    words = {number: word for number, word, looks in past[0]}
    high = {"make", "watch", "hold"}
    found = []
    for ill in ills_of(past):
        levels = {words[number] for number in ill[1:3 if ill[0] == "skewed" else 2]}
        too_high = {"unkept": high | {"kept"}, "lost": high, "midway": high, "skewed": {"watch", "hold"}}[ill[0]]
        found += [ill] if levels <= too_high else []
    return found


def rise(numbers):
    return sorted(set(numbers)) == numbers


def second_reading(text):
    """A second account of points 61, 63 and 64: the history that the text tells, or None."""
    deals, makes = [], []
    for row in [] if text == "" else text.split("\n"):
        deal, make = DEAL.fullmatch(row), MAKE.fullmatch(row)
        if deal and not makes:
            looks = [] if deal[3] is None else deal[3].split("; ")
            deals.append((int(deal[1]), deal[2], [re.findall("([^ <]+)<([^ ]+)", look) for look in looks]))
        elif make:
            makes.append((int(make[1]), [int(number) for number in make[2].split()]))
        else:
            return None
    numbers, makers = [deal[0] for deal in deals], dict(makes)
    if not rise(numbers) or not set(numbers) <= set(range(1, 9)) or not rise([make[0] for make in makes]):
        return None
    for made in makers.values():
        if len(set(made)) < len(made) or not set(made) <= set(numbers):
            return None
    found = []
    for number, word, looks in deals:
        for look in looks:
            if not rise([int(key) for key, source in look]):
                return None
            for key, source in look:
                allowed = {"?", "0"} | {str(maker) for maker in makers.get(int(key), []) if maker != number}
                if source not in allowed:
                    return None
        sources = [[(int(key), -1 if source == "?" else int(source)) for key, source in look] for look in looks]
        found.append((number, word, sources))
    return (found, makes)


def why_text(why):
    """A second account of point 91, of a reason."""
    match why:
        case None:
            return "none"
        case ("own",):
            return "own"
        case ("ring", numbers):
            return "ring" + "".join(f" {number}" for number in numbers)
        case ("first", key, maker):
            return f"first {key} {maker}"
        case ("edges", one, key, mid, other_key, other):
            return f"edges {one} {key} {mid} {other_key} {other}"


def row_text(row):
    """A second account of point 91, of a row."""
    match row:
        case (stamp, number, "idle"):
            return f"{stamp} {number} idle"
        case (stamp, number, "look", low, high, seen):
            return f"{stamp} {number} look {low} {high}:" + "".join(f" {key}={value}" for key, value in seen)
        case (stamp, number, "put", key, None):
            return f"{stamp} {number} take {key}"
        case (stamp, number, "put", key, value):
            return f"{stamp} {number} put {key} {value}"
        case (stamp, number, "let", letter, value):
            return f"{stamp} {number} let {letter} {value}"
        case (stamp, number, "go", place):
            return f"{stamp} {number} go {place}"
        case (stamp, number, "wait", others):
            return f"{stamp} {number} wait" + "".join(f" {other}" for other in others)
        case (stamp, number, "broken", reason):
            return f"{stamp} {number} broken {why_text(reason)}"
        case (stamp, number, "kept", made):
            pairs = "".join(f" {key}={'-' if value is None else value}" for key, value in made)
            return f"{stamp} {number} kept:{pairs}"


def spots_text(order):
    return " ".join(f"{number}.{place}" for number, place in order) or "none"


def edge_text(edge):
    (number, place), (other, other_place), why, key = edge
    middle = why if why == "own" else f"{why} {key}"
    return f"{number}.{place} {middle} {other}.{other_place}"


def verdict_text(answer):
    """A second account of point 92, of the judge's answers."""
    match answer:
        case ("unkept", number, place, key):
            return f"unkept {number} {place} {key}"
        case ("order", spots):
            return f"order {spots_text(spots)}"
        case ("ring", edges):
            return "ring " + "; ".join(edge_text(edge) for edge in edges)


def ill_text(ill):
    match ill:
        case ("lost", d, right, key):
            return f"lost {d} {right} {key}"
        case (("midway" | "unkept") as kind, d, key):
            return f"{kind} {d} {key}"
        case ("skewed", one, other, key, other_key):
            return f"skewed {one} {other} {key} {other_key}"


def history_text(past):
    """A second account of point 63."""
    rows = []
    for number, word, looks in past[0]:
        texts = [" ".join(f"{key}<{'?' if source == -1 else source}" for key, source in look) or "-" for look in looks]
        rows.append(f"{number} {word}:" + (" " + "; ".join(texts) if looks else ""))
    for key, makers in past[1]:
        rows.append(f"make {key}: " + " ".join(str(maker) for maker in makers))
    return "\n".join(rows)


def run_alone(rows, deeds):
    """A program run by itself on plain rows: what its looks see, and the rows that it leaves, None if it stops."""
    rows, names, place, looks = dict(rows), {}, 0, []
    while place < len(deeds):
        deed = deeds[place]
        if deed[0] in ("read", "sum", "count"):
            low, high = worth(deed[2], names), worth(deed[-1], names)
            looks.append(tuple((key, rows[key]) for key in sorted(rows) if low <= key <= high))
            names[deed[1]] = told(deed, looks[-1])
        elif deed[0] == "put":
            rows[worth(deed[1], names)] = worth(deed[2], names)
        elif deed[0] == "take":
            rows.pop(worth(deed[1], names), None)
        elif deed[0] == "let":
            names[deed[1]] = let_of(deed, names)
        elif deed[0] == "stop" and under(deed, names):
            return looks, None
        place = following(deed, place, names, len(deeds))
    return looks, rows


class Account:
    """A plain second account of the rows that a house tells."""

    def __init__(self, rows, programs):
        self.programs = programs
        many = range(1, len(programs) + 1)
        # Of each stamp what was kept then: under a key (stamp, maker, value or None).
        self.states = [{key: (0, 0, value) for key, value in rows.items()}]
        self.place = dict.fromkeys(many, 0)
        self.names = {number: {} for number in many}
        self.drafts = {number: {} for number in many}
        self.looks = {number: [] for number in many}
        self.begin, self.ended, self.waiting, self.kept = {}, {}, {}, {}
        self.locks = []
        self.log = []

    def play(self, weaving):
        for number in weaving:
            self.turn(number)
        while len(self.ended) < len(self.programs):
            for number in range(1, len(self.programs) + 1):
                if number not in self.ended:
                    self.turn(number)
        return self.log

    def turn(self, number):
        self.states.append(dict(self.states[-1]))
        self.now = len(self.states) - 1
        if number in self.ended:
            return self.tell(number, "idle")
        self.begin.setdefault(number, self.now)
        self.waiting.pop(number, None)
        deeds = self.programs[number - 1][1]
        if self.place[number] == len(deeds):
            return self.keep(number)
        return self.deed(number, deeds[self.place[number]])

    def tell(self, number, *parts):
        self.log.append((self.now, number) + parts)

    def worth(self, number, operand):
        return self.names[number].get(operand, 0) if isinstance(operand, str) else operand

    def deed(self, number, deed):
        word = self.programs[number - 1][0]
        worths = [self.worth(number, part) for part in deed]
        if deed[0] in ("read", "sum", "count"):
            low, high = worths[2], worths[-1]
            if word == "hold" and not self.lock(number, deed, low, high, False):
                return
            self.see(number, word, deed, low, high)
        elif deed[0] in ("put", "take"):
            stamp, maker, value = self.states[-1].get(worths[1], (0, 0, None))
            if word in ("make", "watch") and stamp > self.begin[number]:
                return self.break_off(number, ("first", worths[1], maker))
            if not self.lock(number, deed, worths[1], worths[1], True):
                return
            self.drafts[number][worths[1]] = worths[2] if deed[0] == "put" else None
            self.tell(number, "put", worths[1], self.drafts[number][worths[1]])
        elif deed[0] == "let":
            self.names[number][deed[1]] = worths[2] + worths[4] * (1 if deed[3] == "+" else -1)
            self.tell(number, "let", deed[1], self.names[number][deed[1]])
        elif deed[0] == "stop" and worths[1] < worths[2]:
            return self.break_off(number, ("own",))
        self.place[number] += 1
        if deed[0] in ("skip", "stop"):
            if deed[0] == "skip" and worths[1] < worths[2]:
                self.place[number] = min(self.place[number] + deed[3], len(self.programs[number - 1][1]))
            self.tell(number, "go", self.place[number])

    def see(self, number, word, deed, low, high):
        stand = self.begin[number] if word in ("make", "watch") else self.now
        values = {key: make[2] for key, make in self.states[stand].items()}
        if word == "loose":
            for other in self.begin:
                if other != number and other not in self.ended:
                    values.update(self.drafts[other])
        values.update(self.drafts[number])
        seen = [(key, values[key]) for key in sorted(values) if low <= key <= high and values[key] is not None]
        told = [value for key, value in seen]
        tells = {"read": sum(told[:1]), "sum": sum(told), "count": len(told)}
        self.names[number][deed[1]] = tells[deed[0]]
        self.looks[number].append((stand, low, high, list(self.drafts[number])))
        self.tell(number, "look", low, high, tuple(seen))

    def against(self, number, low, high, own):
        found = []
        for other, other_low, other_high, other_own in self.locks:
            common = low <= high and other_low <= other_high and low <= other_high and other_low <= high
            if other != number and common and (own or other_own):
                found.append(other)
        return sorted(set(found))

    def lock(self, number, deed, low, high, own):
        """Takes the hold, or tells the wait or the ring: then the deed is not done."""
        others = self.against(number, low, high, own)
        if not others:
            self.locks.append((number, low, high, own))
            self.waiting.pop(number, None)
            return True
        self.waiting[number] = (low, high, own)
        waits = {each: self.against(each, *wanted) for each, wanted in self.waiting.items()}
        chain = least_ring(waits, number)
        if chain is None:
            self.tell(number, "wait", tuple(others))
            return False
        last = max(chain, key=self.begin.get)
        self.break_off(last, ("ring", chain))
        return last != number and self.lock(number, deed, low, high, own)

    def finish(self, number):
        self.ended[number] = self.now
        self.waiting.pop(number, None)
        self.locks = [lock for lock in self.locks if lock[0] != number]

    def break_off(self, number, why):
        self.finish(number)
        self.tell(number, "broken", why)

    def older(self, one, other):
        """The keys on which the one saw what stood ahead of the other one's make."""
        found = []
        for key in sorted(self.drafts[other]):
            for stand, low, high, own in self.looks[one]:
                if one != other and stand < self.kept[other] and low <= key <= high and key not in own:
                    found.append(key)
        return found

    def closing(self, number):
        watched = [mid for mid in sorted(self.kept) if self.programs[mid - 1][0] == "watch"]
        for mid, one, other in itertools.product(watched, sorted(self.kept), sorted(self.kept)):
            if number in (one, mid) and self.kept[one] > self.begin[mid] and self.kept[other] < self.kept[mid]:
                first, second = self.older(one, mid), self.older(mid, other)
                if first and second:
                    return ("edges", one, first[0], mid, second[0], other)
        return None

    def keep(self, number):
        if self.programs[number - 1][0] == "loose":
            self.looks[number] = []
        self.kept[number] = self.now
        why = self.closing(number)
        if why is not None:
            self.kept.pop(number)
            return self.break_off(number, why)
        made = sorted(self.drafts[number].items())
        self.states[-1].update({key: (self.now, number, value) for key, value in made})
        self.finish(number)
        self.tell(number, "kept", tuple(made))


class Told:
    """What is told of the rows of a log alone, by points 57 and 59."""

    def __init__(self, first, words, log):
        self.first, self.words, self.log = first, words, log
        self.numbers = range(1, len(words) + 1)
        self.begin, self.end, self.state, self.why = {}, {}, dict.fromkeys(self.numbers, "new"), {}
        for row in log:
            self.begin.setdefault(row[1], row[0])
            if row[2] in ("kept", "broken"):
                self.end[row[1]] = row[0]
                self.why[row[1]] = row[3] if row[2] == "broken" else None
            if row[2] != "idle":
                self.state[row[1]] = {"kept": "kept", "broken": "broken", "wait": "waiting"}.get(row[2], "going")
        self.keeps = [row for row in log if row[2] == "kept"]

    def kept(self):
        return [row[1] for row in self.keeps]

    def rows(self):
        values = dict(self.first)
        for row in self.keeps:
            values.update(row[3])
        return sorted((key, value) for key, value in values.items() if value is not None)

    def made(self):
        found = {}
        for row in self.keeps:
            for key, value in row[3]:
                found.setdefault(key, []).append(row[1])
        return sorted(found.items())

    def looks(self, number):
        """The rows of its looks, each with its stand."""
        late = self.words[number - 1] in ("make", "watch")
        looks = [row for row in self.log if row[1] == number and row[2] == "look"]
        return [(self.begin[number] if late else row[0], row) for row in looks]

    def wrote(self, number, key, low, high):
        """Whether it put or took the key at a stamp from low to less than high."""
        return any(row[1:4] == (number, "put", key) and low <= row[0] < high for row in self.log)

    def drafter(self, number, key, stamp):
        """The other dealing that had put or taken the key by that stamp, and not ended, or None."""
        for other in self.numbers:
            if other != number and self.wrote(other, key, 0, stamp) and self.end.get(other, stamp) >= stamp:
                return other
        return None

    def source(self, number, key, stand, row):
        other = self.drafter(number, key, row[0]) if self.words[number - 1] == "loose" else None
        if other is not None:
            behind = self.wrote(other, key, row[0], len(self.log) + 1)
            return other if self.state[other] == "kept" and not behind else -1
        makers = [keep[1] for keep in self.keeps if keep[0] <= stand and key in dict(keep[3])]
        return ([0] + makers)[-1]

    def looked(self, number):
        if self.state[number] != "kept":
            return []
        keys = {key for key, makers in self.made()}
        puts = {row[3] for row in self.log if row[2] == "put"}
        found = []
        for stand, row in self.looks(number):
            pairs = []
            for key in sorted(keys | puts):
                loose = self.words[number - 1] == "loose" and self.drafter(number, key, row[0]) is not None
                own = self.wrote(number, key, 0, row[0])
                if row[3] <= key <= row[4] and not own and (key in keys or loose):
                    pairs.append((key, self.source(number, key, stand, row)))
            found.append(pairs)
        return found

    def early(self, number):
        for stand, look in self.looks(number):
            for keep in self.keeps:
                seen = [key for key, value in keep[3] if look[3] <= key <= look[4]]
                seen = [key for key in seen if not self.wrote(number, key, 0, look[0])]
                if seen and self.begin[number] < keep[0] < self.end[number]:
                    return True
        return False

    def stamps(self, number):
        word, begin, end = self.words[number - 1], self.begin[number], self.end[number]
        if word == "watch":
            return [begin if self.early(number) else end]
        stands = [stand for stand, row in self.looks(number)]
        return {"loose": [end], "kept": stands + [end], "make": [begin, end], "hold": [end]}[word]

    def order(self):
        spots = []
        for number in self.kept():
            spots += [(stamp, number, place) for place, stamp in enumerate(self.stamps(number))]
        return [spot[1:] for spot in sorted(spots)]
