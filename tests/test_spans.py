"""Points 2, 3 and 41 to 46: spans, which is older, which three close, who is let in, and where a span stands."""

import inspect
import itertools
import random
import unittest

from skewhouse.errors import Broken, SkewError
from skewhouse.spans import Span, closing, early, let_in, older, stand_of

BIG = 10 ** 30 - 1
WATCHED, PLAIN = True, False


def look_at(stand, *keys):
    """A look at each key by itself."""
    return [(stand, key, key, ()) for key in keys]


def fields_of(span):
    return (span.number, span.watched, span.begin, span.end, list(span.looks), list(span.puts))


def keys_of(one, other):
    """A second account of point 42: all keys on which the one span is older than the other one."""
    found = []
    for key in other.puts:
        looks = [look for look in one.looks if look[0] < other.end]
        looks = [look for look in looks if look[1] <= key and key <= look[2]]
        looks = [look for look in looks if not any(key == own for own in look[3])]
        if looks and one.number != other.number:
            found.append(key)
    return found


def threes_of(kept, new):
    """A second account of point 43: all closing threes that are looked at, least mid, one and other first."""
    found = []
    for one, mid, other in itertools.product(kept + [new], repeat=3):
        if not mid.watched or mid.number in (one.number, other.number):
            continue
        if new.number not in (one.number, mid.number):
            continue
        first, second = keys_of(one, mid), keys_of(mid, other)
        if first and second and one.end > mid.begin and other.end < mid.end:
            three = (one.number, min(first), mid.number, min(second), other.number)
            found.append(((mid.number, one.number, other.number), three))
    return [three for rank, three in sorted(found)]


def looks_by_chance(chance, watched, begin, end):
    looks = []
    for turn in range(chance.randint(0, 4)):
        low = chance.randint(1, 5)
        own = tuple(chance.sample(range(1, 7), chance.choice([0, 0, 0, 1, 2])))
        stand = begin if watched else chance.randint(begin, end)
        looks.append((stand, low, low + chance.choice([-1, 0, 0, 1, 3]), own))
    return looks


def spans_by_chance(chance, many):
    """Spans by rising ends; the ends are even stamps, the begins odd ones, of which several may be alike."""
    numbers = chance.sample(range(1, 20), many)
    reach = chance.choice([8, 24, 60])
    spans = []
    for number, end in zip(numbers, sorted(chance.sample(range(2, 4 * many, 2), many))):
        begin = chance.choice([stamp for stamp in range(1, end, 2) if stamp > end - reach])
        watched = chance.random() < 0.6
        puts = sorted(chance.sample(range(1, 7), chance.randint(0, 3)))
        spans.append(Span(number, watched, begin, end, looks_by_chance(chance, watched, begin, end), puts))
    return spans


def let_in_by_chance(chance, many):
    kept, refused = [], 0
    for span in spans_by_chance(chance, many):
        try:
            kept = let_in(kept, span)
        except Broken:
            refused += 1
    return kept, refused


class SpanTest(unittest.TestCase):
    def test_its_fields(self):
        span = Span(3, WATCHED, 5, 9, [(5, 1, 4, (2, 3)), (5, 7, 7, ())], [2, 8])
        self.assertEqual(fields_of(span), (3, True, 5, 9, [(5, 1, 4, (2, 3)), (5, 7, 7, ())], [2, 8]))
        self.assertIsInstance(span.looks, list)
        self.assertIsInstance(span.puts, list)
        self.assertIs(Span(3, PLAIN, 5, 9, [], []).watched, False)

    def test_without_looks_and_without_puts(self):
        span = Span(BIG, PLAIN, 1, 1, [], [])
        self.assertEqual(fields_of(span), (BIG, False, 1, 1, [], []))

    def test_it_keeps_copies(self):
        looks, puts = [(5, 1, 4, ())], [2, 8]
        span = Span(3, WATCHED, 5, 9, looks, puts)
        looks.append((5, 9, 9, ()))
        looks[0] = (5, 6, 6, ())
        puts.clear()
        self.assertEqual(fields_of(span), (3, True, 5, 9, [(5, 1, 4, ())], [2, 8]))
        self.assertEqual((looks, puts), ([(5, 6, 6, ()), (5, 9, 9, ())], []))

    def test_what_is_changed_later_changes_no_answer(self):
        looks, puts = look_at(2, 5), [5]
        one, other = Span(1, PLAIN, 1, 4, looks, []), Span(2, PLAIN, 3, 6, [], puts)
        looks.clear()
        puts[0] = 9
        self.assertEqual(older(one, other), 5)

    def test_two_spans_share_nothing(self):
        looks, puts = look_at(2, 5), [5]
        one, other = Span(1, PLAIN, 1, 4, looks, puts), Span(2, PLAIN, 1, 6, looks, puts)
        self.assertIsNot(one.looks, other.looks)
        self.assertIsNot(one.puts, other.puts)

    def test_arguments(self):
        names = ["number", "watched", "begin", "end", "looks", "puts"]
        self.assertEqual(list(inspect.signature(Span).parameters), names)
        span = Span(puts=[1], looks=[], end=3, begin=2, watched=True, number=7)
        self.assertEqual(fields_of(span), (7, True, 2, 3, [], [1]))
        wanted = {older: ["one", "other"], closing: ["kept", "new"], let_in: ["kept", "new"]}
        wanted.update({early: ["span", "kept"], stand_of: ["span", "kept"]})
        for asked, names in wanted.items():
            self.assertEqual(list(inspect.signature(asked).parameters), names)
        self.assertIsNone(older(one=span, other=span))
        self.assertIsNone(closing(kept=[], new=span))
        self.assertEqual(let_in(kept=[], new=span), [span])
        self.assertEqual((early(span=span, kept=[]), stand_of(span=span, kept=[])), (False, 3))


class OlderTest(unittest.TestCase):
    def older_by(self, looks, puts, end=20):
        return older(Span(1, PLAIN, 1, 30, looks, []), Span(2, PLAIN, 3, end, [], puts))

    def test_the_key_in_the_stretch(self):
        for low, high in [(5, 5), (5, 9), (1, 5), (4, 6), (-BIG, BIG)]:
            self.assertEqual(self.older_by([(4, low, high, ())], [5]), 5, (low, high))

    def test_the_key_outside_the_stretch(self):
        for low, high in [(6, 9), (1, 4), (4, 4), (6, 6), (-9, -5)]:
            self.assertIsNone(self.older_by([(4, low, high, ())], [5]), (low, high))

    def test_an_empty_stretch(self):
        for low, high in [(6, 5), (5, 4), (6, 4), (9, 1), (BIG, -BIG)]:
            self.assertIsNone(self.older_by([(4, low, high, ())], [5]), (low, high))

    def test_own_that_has_the_key(self):
        self.assertIsNone(self.older_by([(4, 1, 9, (5,))], [5]))
        self.assertIsNone(self.older_by([(4, 1, 9, (7, 5, 3))], [5]))
        self.assertEqual(self.older_by([(4, 1, 9, (4, 6))], [5]), 5)
        self.assertEqual(self.older_by([(4, 1, 9, (5,))], [5, 6]), 6)
        self.assertEqual(self.older_by([(4, 1, 9, (5,)), (6, 1, 9, ())], [5]), 5)

    def test_own_has_nothing_to_do_with_the_puts(self):
        one = Span(1, PLAIN, 1, 30, look_at(4, 5), [5])
        self.assertEqual(older(one, Span(2, PLAIN, 3, 20, [], [5])), 5)
        one = Span(1, PLAIN, 1, 30, [(4, 5, 5, (5,))], [])
        self.assertIsNone(older(one, Span(2, PLAIN, 3, 20, [], [5])))

    def test_the_stand_and_the_other_ones_end(self):
        self.assertEqual(self.older_by(look_at(19, 5), [5]), 5)
        self.assertIsNone(self.older_by(look_at(20, 5), [5]))
        self.assertIsNone(self.older_by(look_at(21, 5), [5]))
        self.assertEqual(self.older_by(look_at(BIG - 1, 5), [5], BIG), 5)
        self.assertIsNone(self.older_by(look_at(BIG, 5), [5], BIG))

    def test_the_stand_and_the_other_ones_begin_have_nothing_to_do_with_one_another(self):
        one = Span(1, PLAIN, 1, 30, look_at(4, 5), [])
        for begin in (1, 3, 4, 5, 20):
            self.assertEqual(older(one, Span(2, PLAIN, begin, 20, [], [5])), 5)

    def test_watched_or_not(self):
        for watched, other_watched in itertools.product([True, False], repeat=2):
            one = Span(1, watched, 4, 30, look_at(4, 5), [])
            self.assertEqual(older(one, Span(2, other_watched, 3, 20, [], [5])), 5)

    def test_several_looks(self):
        self.assertEqual(self.older_by(look_at(4, 1, 5, 9), [5]), 5)
        self.assertEqual(self.older_by([(25, 5, 5, ()), (4, 5, 5, ())], [5]), 5)
        self.assertIsNone(self.older_by([(25, 5, 5, ()), (4, 6, 6, ()), (4, 5, 5, (5,))], [5]))

    def test_one_look_is_to_have_all_of_it(self):
        looks = [(25, 5, 5, ()), (4, 6, 6, ()), (4, 9, 1, ())]
        self.assertIsNone(self.older_by(looks, [5]))

    def test_the_least_key(self):
        self.assertEqual(self.older_by(look_at(4, 9, 5, 7), [5, 7, 9]), 5)
        self.assertEqual(self.older_by(look_at(4, 9, 7), [5, 7, 9]), 7)
        self.assertEqual(self.older_by([(4, 6, 9, ()), (4, 1, 3, ())], [-1, 2, 5, 8]), 2)
        self.assertEqual(self.older_by([(4, -9, 9, ())], [-4, 0, 4]), -4)
        self.assertEqual(self.older_by([(4, -9, 9, (-4,))], [-4, 0, 4]), 0)

    def test_keys_of_any_size(self):
        self.assertEqual(self.older_by([(4, -BIG, BIG, ())], [-BIG - 1, -BIG, BIG]), -BIG)
        self.assertEqual(self.older_by([(4, 10 ** 50, 10 ** 50, ())], [10 ** 50 - 1, 10 ** 50]), 10 ** 50)

    def test_a_key_that_is_0(self):
        self.assertEqual(self.older_by(look_at(4, 0), [0]), 0)

    def test_no_looks_and_no_puts(self):
        self.assertIsNone(self.older_by([], [5]))
        self.assertIsNone(self.older_by(look_at(4, 5), []))
        self.assertIsNone(self.older_by([], []))

    def test_a_span_beside_itself(self):
        span = Span(1, WATCHED, 4, 9, look_at(4, 5), [5])
        self.assertIsNone(older(span, span))
        self.assertIsNone(older(span, Span(1, WATCHED, 4, 9, look_at(4, 5), [5])))

    def test_each_may_be_older_than_the_other_one(self):
        one, other = Span(1, PLAIN, 1, 8, look_at(2, 5), [6]), Span(2, PLAIN, 3, 9, look_at(4, 6), [5])
        self.assertEqual((older(one, other), older(other, one)), (5, 6))

    def test_forty_looks_and_forty_puts(self):
        one = Span(1, PLAIN, 1, 90, look_at(4, *range(100, 140)), [])
        self.assertIsNone(older(one, Span(2, PLAIN, 1, 80, [], list(range(40, 80)))))
        self.assertEqual(older(one, Span(2, PLAIN, 1, 80, [], list(range(100, 140)))), 100)

    def test_by_chance(self):
        for seed in range(100):
            spans = spans_by_chance(random.Random(seed), 6)
            for one, other in itertools.product(spans, repeat=2):
                self.assertEqual(older(one, other), min(keys_of(one, other), default=None), seed)


class ClosingTest(unittest.TestCase):
    """In most of these one saw key 5 ahead of mid's make, and mid saw key 6 ahead of other's make."""

    def one(self, number=1, begin=3, end=12, looks=None, puts=()):
        return Span(number, PLAIN, begin, end, look_at(begin, 5) if looks is None else looks, list(puts))

    def mid(self, number=2, begin=5, end=10, watched=WATCHED, looks=None, puts=(5,)):
        return Span(number, watched, begin, end, look_at(begin, 6) if looks is None else looks, list(puts))

    def other(self, number=3, begin=4, end=8, puts=(6,)):
        return Span(number, PLAIN, begin, end, [], list(puts))

    def test_none_kept(self):
        self.assertIsNone(closing([], self.mid()))
        self.assertIsNone(closing([], Span(1, WATCHED, 1, 2, look_at(1, 5), [5])))

    def test_the_new_one_is_one(self):
        self.assertEqual(closing([self.mid(), self.other()], self.one()), (1, 5, 2, 6, 3))
        self.assertEqual(closing([self.other(), self.mid()], self.one()), (1, 5, 2, 6, 3))

    def test_the_new_one_is_mid(self):
        kept = [self.one(end=7), self.other()]
        self.assertEqual(closing(kept, self.mid()), (1, 5, 2, 6, 3))
        self.assertEqual(closing(kept[::-1], self.mid()), (1, 5, 2, 6, 3))

    def test_the_new_one_is_never_other_alone(self):
        kept = [self.one(end=7), self.mid()]
        self.assertIsNone(closing(kept, self.other(end=14)))

    def test_a_three_of_kept_ones_alone(self):
        kept = [self.one(), self.mid(), self.other()]
        self.assertIsNone(closing(kept, Span(9, WATCHED, 13, 14, look_at(13, 5, 6), [5, 6])))

    def test_one_that_is_other_too(self):
        both = Span(1, PLAIN, 3, 8, look_at(4, 5), [6])
        self.assertEqual(closing([both], self.mid()), (1, 5, 2, 6, 1))
        watched = Span(1, WATCHED, 3, 8, look_at(3, 5), [6])
        self.assertEqual(closing([watched], self.mid()), (1, 5, 2, 6, 1))

    def test_the_new_one_is_not_other_too(self):
        new = Span(1, PLAIN, 3, 14, look_at(4, 5), [6])
        self.assertIsNone(closing([self.mid()], new))

    def test_one_edge_alone(self):
        self.assertIsNone(closing([self.mid(), self.other(puts=[7])], self.one()))
        self.assertIsNone(closing([self.mid(), self.other(puts=[])], self.one()))
        self.assertIsNone(closing([self.mid(puts=[7]), self.other()], self.one()))
        self.assertIsNone(closing([self.mid(), self.other()], self.one(looks=[])))
        self.assertIsNone(closing([self.mid(looks=[]), self.other()], self.one()))
        self.assertIsNone(closing([self.mid()], self.one()))
        self.assertIsNone(closing([self.other()], self.mid()))
        self.assertIsNone(closing([self.one(end=7)], self.mid()))

    def test_edges_the_other_way_round(self):
        one = Span(1, PLAIN, 3, 12, [], [6])
        other = Span(3, PLAIN, 4, 8, look_at(4, 5), [])
        self.assertIsNone(closing([self.mid(), other], one))

    def test_the_end_of_one_and_the_begin_of_mid(self):
        for end, closes in [(3, False), (4, False), (5, False), (6, True), (7, True)]:
            kept = [self.one(end=end), self.other()]
            wanted = (1, 5, 2, 6, 3) if closes else None
            self.assertEqual(closing(kept, self.mid(begin=5)), wanted, end)

    def test_the_end_of_other_and_the_end_of_mid(self):
        for end, closes in [(8, True), (9, True), (10, False), (11, False), (12, False)]:
            kept = [self.mid(end=10), self.other(end=end)]
            wanted = (1, 5, 2, 6, 3) if closes else None
            self.assertEqual(closing(kept, self.one(end=13)), wanted, end)

    def test_a_look_at_the_bound_of_an_end(self):
        for stand, closes in [(9, True), (10, False), (11, False)]:
            wanted = (1, 5, 2, 6, 3) if closes else None
            new = self.one(looks=look_at(stand, 5))
            self.assertEqual(closing([self.mid(end=10), self.other()], new), wanted, stand)
        for end, closes in [(4, False), (5, False), (6, True)]:
            wanted = (1, 5, 2, 6, 3) if closes else None
            kept = [self.mid(begin=5), self.other(begin=1, end=end)]
            self.assertEqual(closing(kept, self.one()), wanted, end)

    def test_a_mid_that_is_not_watched(self):
        self.assertIsNone(closing([self.mid(watched=PLAIN), self.other()], self.one()))
        self.assertIsNone(closing([self.one(end=7), self.other()], self.mid(watched=PLAIN)))

    def test_whether_one_and_other_are_watched_counts_for_nothing(self):
        for watched, other_watched in itertools.product([True, False], repeat=2):
            one = Span(1, watched, 3, 12, look_at(3, 5), [])
            other = Span(3, other_watched, 4, 8, [], [6])
            self.assertEqual(closing([self.mid(), other], one), (1, 5, 2, 6, 3))

    def test_the_least_keys(self):
        one = self.one(looks=[(3, 1, 4, (1,)), (3, 5, 5, ())])
        mid = self.mid(looks=look_at(5, 9, 8, 7), puts=[1, 3, 4, 5])
        other = self.other(puts=[6, 8, 9])
        self.assertEqual(closing([mid, other], one), (1, 3, 2, 8, 3))
        self.assertEqual(closing([other, mid], one), (1, 3, 2, 8, 3))

    def test_keys_that_are_0(self):
        one, mid = self.one(looks=look_at(3, 0)), self.mid(puts=[0])
        self.assertEqual(closing([mid, self.other()], one), (1, 0, 2, 6, 3))
        mid, other = self.mid(looks=look_at(5, 0)), self.other(puts=[0])
        self.assertEqual(closing([mid, other], self.one()), (1, 5, 2, 0, 3))

    def in_all_orders(self, kept, new, wanted):
        for some in itertools.permutations(kept):
            self.assertEqual(closing(list(some), new), wanted)

    def test_the_least_mid(self):
        mids = [self.mid(number=7, end=9), self.mid(number=4, end=10), self.mid(number=6, end=11)]
        self.in_all_orders(mids + [self.other()], self.one(), (1, 5, 4, 6, 3))

    def test_the_least_mid_whether_it_is_the_new_one_or_not(self):
        # The spans of numbers 4 and 6 are each older than the other one on 5, and both are older than 3 on 6.
        for new, old in [(4, 6), (6, 4)]:
            kept = [self.mid(number=old, looks=look_at(5, 5, 6)), self.other()]
            self.in_all_orders(kept, self.mid(number=new, end=11, looks=look_at(5, 5, 6)), (6, 5, 4, 6, 3))

    def test_the_least_one(self):
        ones = [self.one(number=8, end=6), self.one(number=5, end=7), self.one(number=9, end=9)]
        self.in_all_orders(ones + [self.other()], self.mid(end=12), (5, 5, 2, 6, 3))

    def test_the_least_other(self):
        others = [self.other(number=8, end=6), self.other(number=4, end=7), self.other(number=9, end=9)]
        self.in_all_orders(others + [self.mid()], self.one(), (1, 5, 2, 6, 4))
        self.in_all_orders(others + [self.one(end=8)], self.mid(), (1, 5, 2, 6, 4))

    def test_mid_counts_ahead_of_one_and_one_ahead_of_other(self):
        # The least one, 1, stands by the mid 9 alone; the least mid, 6, has the one 9.
        one = Span(1, PLAIN, 3, 8, look_at(4, 2), [])
        kept = [one, self.other(number=3), self.mid(number=6, end=10)]
        new = Span(9, WATCHED, 5, 12, look_at(5, 5, 6), [2])
        self.assertEqual(closing(kept[:2], new), (1, 2, 9, 6, 3))
        self.in_all_orders(kept, new, (9, 5, 6, 6, 3))
        # Both ones are others too, each with a key of its own; told is the least other beside the least one.
        ones = [Span(4, PLAIN, 3, 8, look_at(4, 5), [6]), Span(3, PLAIN, 3, 9, [], [7])]
        ones.append(Span(7, PLAIN, 3, 7, look_at(4, 5), [6]))
        self.in_all_orders(ones, self.mid(looks=look_at(5, 6, 7)), (4, 5, 2, 7, 3))

    def test_numbers_count_not_ends_or_begins(self):
        mids = [self.mid(number=4, begin=7, end=11), self.mid(number=6, begin=5, end=9)]
        self.in_all_orders(mids + [self.other()], self.one(), (1, 5, 4, 6, 3))

    def test_numbers_of_any_size(self):
        one = self.one(number=BIG, begin=BIG, end=BIG + 20)
        mid = self.mid(number=BIG - 1, begin=BIG + 1, end=BIG + 10)
        other = self.other(number=10 ** 50, begin=BIG, end=BIG + 5)
        self.assertEqual(closing([other, mid], one), (BIG, 5, BIG - 1, 6, 10 ** 50))

    def test_forty_spans(self):
        kept = [Span(number, WATCHED, 1, 2 * number, look_at(1, 5), [6]) for number in range(1, 40)]
        self.assertIsNone(closing(kept, Span(40, WATCHED, 1, 80, look_at(1, 6), [7])))
        self.assertEqual(closing(kept, Span(40, WATCHED, 1, 80, look_at(1, 6), [5])), (1, 5, 40, 6, 1))

    def test_by_chance(self):
        found = {True: 0, False: 0}
        for seed in range(600):
            chance = random.Random(seed)
            spans = spans_by_chance(chance, chance.randint(2, 9))
            kept, new = spans[:-1], spans[-1]
            chance.shuffle(kept)
            threes = threes_of(kept, new)
            self.assertEqual(closing(kept, new), threes[0] if threes else None, seed)
            found[len(threes) > 1] += 1
        self.assertGreater(min(found.values()), 50, found)


class LetInTest(unittest.TestCase):
    MID = Span(2, WATCHED, 5, 10, look_at(5, 6), [5])
    OTHER = Span(3, PLAIN, 4, 8, [], [6])
    ONE = Span(1, PLAIN, 3, 12, look_at(3, 5), [])

    def test_the_first_one(self):
        kept = []
        self.assertEqual(let_in(kept, self.ONE), [self.ONE])
        self.assertEqual(kept, [])

    def test_behind_the_kept_ones(self):
        kept = [self.MID, self.OTHER]
        late = Span(1, PLAIN, 11, 12, look_at(11, 5), [])
        given = let_in(kept, late)
        self.assertEqual(given, [self.MID, self.OTHER, late])
        self.assertEqual(kept, [self.MID, self.OTHER])
        self.assertIsNot(given, kept)
        given.clear()
        self.assertEqual(let_in(kept, late), [self.MID, self.OTHER, late])

    def test_the_spans_themselves_are_given(self):
        given = let_in([self.OTHER], self.MID)
        self.assertIs(given[0], self.OTHER)
        self.assertIs(given[1], self.MID)

    def refused(self, kept, new, why):
        before, fields = list(kept), [fields_of(span) for span in kept + [new]]
        with self.assertRaises(Broken) as caught:
            let_in(kept, new)
        self.assertIsInstance(caught.exception, SkewError)
        self.assertEqual(caught.exception.dealing, new.number)
        self.assertEqual(caught.exception.why, why)
        self.assertIsInstance(caught.exception.why, tuple)
        self.assertEqual(kept, before)
        self.assertEqual([fields_of(span) for span in kept + [new]], fields)

    def test_refused_as_one(self):
        self.refused([self.MID, self.OTHER], self.ONE, ("edges", 1, 5, 2, 6, 3))

    def test_refused_as_mid(self):
        self.refused([Span(1, PLAIN, 3, 7, look_at(3, 5), []), self.OTHER], self.MID, ("edges", 1, 5, 2, 6, 3))

    def test_numbers_with_thousands_of_figures(self):
        huge = 10 ** 5000
        new = Span(huge, PLAIN, 3, 12, look_at(3, 5), [])
        self.refused([self.MID, self.OTHER], new, ("edges", huge, 5, 2, 6, 3))

    def test_refused_again(self):
        for turn in range(3):
            self.refused([self.OTHER, self.MID], self.ONE, ("edges", 1, 5, 2, 6, 3))

    def test_by_chance(self):
        refusals = 0
        for seed in range(100):
            chance = random.Random(seed)
            kept = []
            for span in spans_by_chance(chance, 7):
                threes = threes_of(kept, span)
                if threes:
                    self.refused(kept, span, ("edges",) + threes[0])
                    refusals += 1
                else:
                    given = let_in(kept, span)
                    self.assertEqual(given, kept + [span])
                    kept = given
        self.assertGreater(refusals, 20)


class EarlyTest(unittest.TestCase):
    SPAN = Span(2, WATCHED, 5, 10, look_at(5, 6), [7])

    def stands(self, span, kept, wanted):
        self.assertIs(early(span, kept), wanted)
        self.assertEqual(stand_of(span, kept), span.begin if wanted else span.end)

    def test_none_kept(self):
        self.stands(self.SPAN, [], False)

    def test_the_stamp_itself(self):
        self.assertEqual(stand_of(self.SPAN, [Span(3, PLAIN, 4, 8, [], [6])]), 5)
        self.assertEqual(stand_of(self.SPAN, []), 10)

    def test_older_than_a_kept_one_whose_end_is_less_equal_or_greater(self):
        for end, wanted in [(6, True), (8, True), (9, True), (10, False), (11, False), (20, False)]:
            self.stands(self.SPAN, [Span(3, PLAIN, 4, end, [], [6])], wanted)

    def test_a_kept_one_whose_end_is_no_greater_than_the_stand(self):
        for end in (4, 5):
            self.stands(self.SPAN, [Span(3, PLAIN, 1, end, [], [6])], False)

    def test_not_watched(self):
        span = Span(2, PLAIN, 5, 10, look_at(5, 6), [7])
        self.assertEqual(older(span, Span(3, PLAIN, 4, 8, [], [6])), 6)
        self.stands(span, [Span(3, PLAIN, 4, 8, [], [6])], False)
        self.stands(span, [], False)

    def test_whether_the_kept_one_is_watched_counts_for_nothing(self):
        self.stands(self.SPAN, [Span(3, WATCHED, 4, 8, [], [6])], True)

    def test_not_older(self):
        for puts in ([], [5], [7], [5, 7]):
            self.stands(self.SPAN, [Span(3, PLAIN, 4, 8, [], puts)], False)
        self.stands(Span(2, WATCHED, 5, 10, [], [6]), [Span(3, PLAIN, 4, 8, look_at(4, 6), [6])], False)

    def test_older_on_the_key_0(self):
        span = Span(2, WATCHED, 5, 10, look_at(5, 0), [])
        self.stands(span, [Span(3, PLAIN, 4, 8, [], [0])], True)

    def test_the_span_itself_among_the_kept_ones(self):
        span = Span(2, WATCHED, 5, 10, look_at(5, 6), [6])
        self.stands(span, [span], False)
        self.stands(span, [Span(2, WATCHED, 5, 10, look_at(5, 6), [6])], False)
        self.stands(span, [span, Span(3, PLAIN, 4, 8, [], [6])], True)
        self.stands(span, [span, Span(3, PLAIN, 4, 12, [], [6])], False)

    def test_one_of_several_in_any_order(self):
        kept = [Span(3, PLAIN, 4, 12, [], [6]), Span(4, PLAIN, 1, 4, [], [6]), Span(5, PLAIN, 4, 9, [], [5])]
        for some in itertools.permutations(kept):
            self.stands(self.SPAN, list(some), False)
        for some in itertools.permutations(kept + [Span(6, PLAIN, 4, 8, [], [1, 6])]):
            self.stands(self.SPAN, list(some), True)

    def test_the_kept_ones_stay_as_they_were(self):
        kept = [Span(6, PLAIN, 4, 8, [], [6]), self.SPAN, Span(1, PLAIN, 4, 12, [], [6])]
        before, fields = list(kept), [fields_of(span) for span in kept]
        for turn in range(3):
            self.stands(self.SPAN, kept, True)
        self.assertEqual(kept, before)
        self.assertEqual([fields_of(span) for span in kept], fields)

    def test_by_chance(self):
        found = {True: 0, False: 0}
        for seed in range(150):
            chance = random.Random(seed)
            spans = spans_by_chance(chance, 6)
            chance.shuffle(spans)
            for span in spans:
                others = [other for other in spans if keys_of(span, other) and other.end < span.end]
                wanted = span.watched and len(others) > 0
                self.stands(span, spans, wanted)
                found[wanted] += 1
        self.assertGreater(min(found.values()), 50, found)


class MomentsTest(unittest.TestCase):
    """Point 46: of spans that were let in one after the other, by rising ends."""

    def moments_hold(self, kept):
        """How many looks there are by which one span is older than another one; their moments are less."""
        count = 0
        moments = {span.number: stand_of(span, kept) for span in kept}
        for one, other in itertools.permutations(kept, 2):
            for look in one.looks:
                alone = Span(one.number, one.watched, one.begin, one.end, [look], one.puts)
                if older(alone, other) is not None:
                    moment = moments[one.number] if one.watched else look[0]
                    self.assertLess(moment, moments[other.number], [fields_of(span) for span in kept])
                    count += 1
        return count

    def test_by_chance(self):
        refusals, count, earlies = 0, 0, 0
        for seed in range(400):
            chance = random.Random(seed)
            kept, refused = let_in_by_chance(chance, chance.randint(3, 12))
            refusals += refused
            count += self.moments_hold(kept)
            earlies += sum(early(span, kept) for span in kept)
        self.assertGreater(refusals, 100)
        self.assertGreater(count, 1000)
        self.assertGreater(earlies, 100)

    def test_asked_again_of_the_same_chance(self):
        for seed in range(20):
            first = let_in_by_chance(random.Random(seed), 8)
            second = let_in_by_chance(random.Random(seed), 8)
            self.assertEqual([fields_of(span) for span in first[0]], [fields_of(span) for span in second[0]])
            self.assertEqual(first[1], second[1])


class HandedInTest(unittest.TestCase):
    def test_spans_and_lists_stay_as_they_were(self):
        for seed in range(40):
            spans = spans_by_chance(random.Random(seed), 5)
            kept, new = spans[:-1], spans[-1]
            before, fields = list(kept), [fields_of(span) for span in spans]
            answers = []
            for turn in range(2):
                answers.append([closing(kept, new), early(new, kept), stand_of(new, kept), older(new, kept[0])])
            self.assertEqual(answers[0], answers[1])
            self.assertEqual(kept, before)
            self.assertEqual([fields_of(span) for span in spans], fields)

    def test_a_kept_list_that_is_changed_behind_the_call(self):
        mid, other, one = LetInTest.MID, LetInTest.OTHER, LetInTest.ONE
        kept = [mid]
        given = let_in(kept, one)
        kept.append(other)
        self.assertEqual(given, [mid, one])
        self.assertEqual(closing(kept, one), (1, 5, 2, 6, 3))


if __name__ == "__main__":
    unittest.main()
