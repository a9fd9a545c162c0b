"""Points 2, 3, 51, 53, 54 and 59, as far as they speak of levels: how they look and put, and their spots."""

import inspect
import itertools
import unittest

from skewhouse.errors import NoLevel, SkewError
from skewhouse.levels import Hold, Kept, Loose, Make, Watch, level_of
from skewhouse.words import LEVEL_WORDS

BIG = 10 ** 30 - 1
WORDS = ["loose", "kept", "make", "watch", "hold"]
CLASSES = [Loose, Kept, Make, Watch, Hold]
STAMPS = [0, 1, 2, 7, 8, BIG, 10 ** 50]

# Of each level those at or above which it stands.
BENEATH = {
    "loose": ["loose"],
    "kept": ["loose", "kept"],
    "make": ["loose", "kept", "make"],
    "watch": ["loose", "kept", "make", "watch"],
    "hold": ["loose", "kept", "hold"],
}

METHODS = {
    "word": [],
    "stand": ["begin", "now"],
    "late": ["begin", "stamp"],
    "unkept": [],
    "holds_asks": [],
    "watches": [],
    "spots": ["looks"],
    "look_spot": ["place"],
    "first_spot": ["looks"],
    "stamps": ["begin", "stands", "end", "early"],
}


def both_ways():
    """Each level by its word, made by its class and by level_of."""
    pairs = [(word, made()) for word, made in zip(WORDS, CLASSES)]
    return pairs + [(word, level_of(word)) for word in WORDS]


class ClassesTest(unittest.TestCase):
    def test_which_stands_above_which(self):
        for word, made in zip(WORDS, CLASSES):
            for other, beneath in zip(WORDS, CLASSES):
                with self.subTest(word + " " + other):
                    self.assertEqual(issubclass(made, beneath), other in BENEATH[word])
                    self.assertEqual(isinstance(made(), beneath), other in BENEATH[word])

    def test_each_stands_right_above_one(self):
        bases = [made.__bases__ for made in CLASSES]
        self.assertEqual(bases, [(object,), (Loose,), (Kept,), (Make,), (Kept,)])

    def test_their_words(self):
        self.assertEqual([made().word() for made in CLASSES], WORDS)
        self.assertEqual(sorted(LEVEL_WORDS), sorted(WORDS))

    def test_made_without_arguments(self):
        for made in CLASSES:
            self.assertEqual(list(inspect.signature(made).parameters), [])

    def test_the_methods_and_their_arguments(self):
        for made in CLASSES:
            for name, wanted in METHODS.items():
                self.assertEqual(list(inspect.signature(getattr(made(), name)).parameters), wanted, name)


class LevelOfTest(unittest.TestCase):
    def test_the_level_of_each_word(self):
        for word, made in zip(WORDS, CLASSES):
            self.assertEqual(level_of(word).__class__, made)
            self.assertEqual(level_of(word).word(), word)

    def test_a_new_one_each_time(self):
        for word in WORDS:
            self.assertIsNot(level_of(word), level_of(word))

    def test_no_other_text_is_a_level_word(self):
        wrong = ["", " ", "Loose", "LOOSE", "watch ", " watch", "watch:", "mak", "makes", "kept\n", "loos", "level"]
        wrong += ["kept make", "broken", "new", "0", "None", "a", "hold;", "kep", "-", "x" * 4000]
        for word in wrong:
            with self.subTest(word[:20]):
                with self.assertRaises(NoLevel) as caught:
                    level_of(word)
                self.assertIsInstance(caught.exception, SkewError)

    def test_the_argument(self):
        self.assertEqual(list(inspect.signature(level_of).parameters), ["word"])
        self.assertEqual(level_of(word="hold").word(), "hold")


class LookTest(unittest.TestCase):
    def test_the_stand_of_a_look(self):
        for word, level in both_ways():
            for begin, now in itertools.product(STAMPS, STAMPS):
                wanted = begin if word in ("make", "watch") else now
                self.assertEqual(level.stand(begin, now), wanted, (word, begin, now))

    def test_which_looks_see_what_is_not_kept(self):
        for word, level in both_ways():
            self.assertIs(level.unkept(), word == "loose", word)

    def test_which_looks_take_holds(self):
        for word, level in both_ways():
            self.assertIs(level.holds_asks(), word == "hold", word)

    def test_which_one_is_watched(self):
        for word, level in both_ways():
            self.assertIs(level.watches(), word == "watch", word)


class LateTest(unittest.TestCase):
    def test_a_make_behind_the_begin(self):
        for word, level in both_ways():
            for begin in (0, 1, 5, BIG, 10 ** 50):
                for stamp in (begin + 1, begin + 2, begin + BIG):
                    self.assertIs(level.late(begin, stamp), word in ("make", "watch"), (word, begin, stamp))

    def test_a_make_at_the_begin_or_ahead_of_it(self):
        for word, level in both_ways():
            for begin in (1, 5, BIG, 10 ** 50):
                for stamp in (begin, begin - 1, 0):
                    self.assertIs(level.late(begin, stamp), False, (word, begin, stamp))
            self.assertIs(level.late(0, 0), False, word)


class SpotsTest(unittest.TestCase):
    LOOKS = [0, 1, 2, 3, 39, 40, 400]

    def test_how_many(self):
        for word, level in both_ways():
            for looks in self.LOOKS:
                wanted = {"loose": 1, "kept": looks + 1, "make": 2, "watch": 1, "hold": 1}[word]
                self.assertEqual(level.spots(looks), wanted, (word, looks))

    def test_the_spot_of_a_look(self):
        for word, level in both_ways():
            for place in self.LOOKS:
                wanted = {"loose": None, "kept": place, "make": 0, "watch": 0, "hold": 0}[word]
                self.assertEqual(level.look_spot(place), wanted, (word, place))

    def test_they_are_told_by_whole_numbers(self):
        for word, level in both_ways():
            for looks in self.LOOKS:
                for told in (level.spots(looks), level.look_spot(looks), level.first_spot(looks)):
                    self.assertNotIsInstance(told, bool, word)

    def test_the_first_spot(self):
        for word, level in both_ways():
            for looks in self.LOOKS:
                wanted = looks if word == "kept" else 0
                self.assertEqual(level.first_spot(looks), wanted, (word, looks))

    def test_the_first_spot_is_the_keep_at_loose_and_kept(self):
        for word, level in both_ways():
            for looks in self.LOOKS:
                keep = level.spots(looks) - 1
                wanted = keep if word in ("loose", "kept") else 0
                self.assertEqual(level.first_spot(looks), wanted, (word, looks))

    def test_each_look_stands_no_later_than_the_keep(self):
        for word, level in both_ways():
            for looks in self.LOOKS:
                places = [level.look_spot(place) for place in range(looks)]
                if word != "loose":
                    self.assertTrue(all(0 <= place < level.spots(looks) for place in places), word)
                if word in ("kept", "make"):
                    self.assertNotIn(level.spots(looks) - 1, places)


class StampsTest(unittest.TestCase):
    STANDS = [[], [7], [3, 5, 8], [8, 3, 3, 12], [0], [BIG, 1], list(range(40, 0, -1))]
    ENDS = [(3, 12), (5, 5), (9, 2), (0, 0), (BIG, 10 ** 40)]

    def wanted(self, word, begin, stands, end, early):
        if word == "kept":
            return [stand for stand in stands] + [end]
        if word == "make":
            return [begin, end]
        if word == "watch" and early:
            return [begin]
        return [end]

    def test_of_each_level(self):
        for word, level in both_ways():
            for stands, ends, early in itertools.product(self.STANDS, self.ENDS, [True, False]):
                begin, end = ends
                wanted = self.wanted(word, begin, stands, end, early)
                self.assertEqual(level.stamps(begin, stands, end, early), wanted, (word, ends, stands, early))

    def test_written_out(self):
        self.assertEqual(Loose().stamps(3, [5, 8], 12, False), [12])
        self.assertEqual(Kept().stamps(3, [5, 8], 12, False), [5, 8, 12])
        self.assertEqual(Make().stamps(3, [3, 3], 12, False), [3, 12])
        self.assertEqual(Watch().stamps(3, [3, 3], 12, False), [12])
        self.assertEqual(Watch().stamps(3, [3, 3], 12, True), [3])
        self.assertEqual(Hold().stamps(3, [5, 8], 12, True), [12])

    def test_early_counts_for_nothing_but_at_watch(self):
        for word, level in both_ways():
            answers = [level.stamps(3, [4, 6], 12, early) for early in (True, False)]
            self.assertEqual(answers[0] == answers[1], word != "watch", word)

    def test_one_for_each_spot(self):
        for word, level in both_ways():
            for stands in self.STANDS:
                stamps = level.stamps(1, stands, 50, False)
                self.assertEqual(len(stamps), level.spots(len(stands)), (word, stands))
                self.assertEqual(stamps[-1], 50, word)

    def test_the_stamp_of_a_looks_spot_is_its_stand(self):
        for word, level in both_ways():
            if word in ("kept", "make"):
                stands = [level.stand(3, now) for now in (4, 6, 9)]
                stamps = level.stamps(3, stands, 12, False)
                self.assertEqual([stamps[level.look_spot(place)] for place in range(3)], stands, word)


class HandedInTest(unittest.TestCase):
    def test_the_list_handed_in_stays(self):
        for word, level in both_ways():
            stands = [5, 4, 8]
            level.stamps(3, stands, 12, True)
            self.assertEqual(stands, [5, 4, 8], word)

    def test_the_list_given_is_a_new_one(self):
        for word, level in both_ways():
            for stands in ([], [5, 8]):
                wanted = level.stamps(3, stands, 12, False)
                before = list(wanted)
                self.assertIsNot(wanted, stands)
                wanted.append(99)
                wanted[0] = -1
                self.assertEqual(level.stamps(3, stands, 12, False), before, word)
                stands.append(7)
                self.assertEqual(wanted[-1], 99)
                stands.pop()

    def test_asked_again(self):
        asks = [lambda level: level.word(), lambda level: level.stand(3, 9), lambda level: level.late(3, 9)]
        asks += [lambda level: level.unkept(), lambda level: level.holds_asks(), lambda level: level.watches()]
        asks += [lambda level: level.spots(3), lambda level: level.look_spot(2), lambda level: level.first_spot(3)]
        asks += [lambda level: level.stamps(3, [4, 5], 9, True)]
        for word, level in both_ways():
            first = [ask(level) for ask in asks]
            self.assertEqual([ask(level) for ask in reversed(asks)], first[::-1], word)
            self.assertEqual([ask(level_of(word)) for ask in asks], first, word)

    def test_arguments_by_name(self):
        for word, level in both_ways():
            self.assertEqual(level.stand(now=9, begin=3), level.stand(3, 9))
            self.assertEqual(level.late(stamp=9, begin=3), level.late(3, 9))
            self.assertEqual(level.spots(looks=3), level.spots(3))
            self.assertEqual(level.look_spot(place=2), level.look_spot(2))
            self.assertEqual(level.first_spot(looks=3), level.first_spot(3))
            self.assertEqual(level.stamps(early=True, end=9, stands=[4], begin=3), level.stamps(3, [4], 9, True))


if __name__ == "__main__":
    unittest.main()
