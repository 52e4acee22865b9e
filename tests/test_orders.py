"""Orders [60], and what the guarantees [5], [6], [7] and [11] say of them."""

from itertools import combinations
from random import Random

from asmuchas.errors import NothingFits
from asmuchas.orders import some_worths, stands_all, word_of, worths_for
from asmuchas.rows import row_of
from asmuchas.told import Told, renamed
from asmuchas.verdicts import plain_word, stands
from asmuchas.words import pairs
from tests.helpers import (
    BAD, BOTH, EMPTY, ORDERED, SIX, SOME, Case, above, all_small_worths, every_sum, fit, great_tolds, plainly_held,
    small_tolds, true_tolds,
)

WORDS = ("alike", "heavier", "unlike")
SIGNS = {"alike": (0,), "heavier": (1,), "lighter": (-1,), "unlike": (-1, 1), "open": (-1, 0, 1)}
UP = Told(("a", "b", "c"), [("alike", ("a", "a"), ("b", "c")), ("heavier", ("b",), ("a",))])
COUNTS = [(0, 6, 6), (0, 7, 5), (5, 7, 0), (4, 4, 4), (3, 6, 3), (2, 3, 7), (1, 6, 5), (5, 0, 7), (0, 0, 7), (12, 0, 0)]
NEVER = [
    BAD, BOTH, UP.with_telling(("heavier", ("c",), ("a",))), UP.with_telling(("heavier", ("a",), ("a",))),
    Told((), [("heavier", (), ())]), Told((), [("unlike", (), ())]), Told(("a",), [("heavier", (), ("a",)),
                                                                               ("heavier", ("a",), ())]),
    Told(SIX, [("heavier", (one,), (other,)) for one, other in zip(SIX, SIX[1:] + SIX[:1])]),
    UP.with_telling(("unlike", ("b", "c"), ("a", "a"))), Told(("a",), [("unlike", ("a",), ("a",))]),
]


def sign_of(number):
    """Return 1, 0 or -1: the sign of a number."""
    return (number > 0) - (number < 0)


class Errors(Case):
    def test_nothing_fits(self):
        for told in NEVER:
            self.same(self.answer(stands_all, told), False)
            self.refuses(NothingFits, some_worths, told)
            for pair in [((), ()), (told.things[:1], ()), (told.things[:1], told.things[-1:])]:
                self.refuses(NothingFits, word_of, told, pair)
                for sign in (1, 0, -1):
                    self.refuses(NothingFits, worths_for, told, pair, sign)

    def test_nothing_is_changed(self):
        self.same([len(told) for told in NEVER[:4]], [3, 4, 3, 3])
        self.same(UP.tellings(), [("alike", ("a", "a"), ("b", "c")), ("heavier", ("b",), ("a",))])


class Orders(Case):
    def check_worths(self, told, worths):
        """Check that worths are of the things, ascending, and fit."""
        self.same(list(worths), list(told.things))
        self.assertTrue(all(type(number) is int for number in worths.values()))
        self.assertTrue(fit(told, worths))

    def check_word(self, told, pair):
        """Check that for each sign there are worths if and only if the word of a pair tells so, and return it."""
        word = self.answer(word_of, told, pair)
        turned = {"heavier": "lighter", "lighter": "heavier"}
        self.same(self.answer(word_of, told, pair[::-1]), turned.get(word, word))
        for sign in (1, 0, -1):
            worths = self.answer(worths_for, told, pair, sign)
            if sign in SIGNS[word]:
                self.check_worths(told, worths)
                self.assertEqual(sign_of(above(worths, pair)), sign)
            else:
                self.same(worths, None)
        return word

    def test_edges(self):
        for told in (EMPTY, Told((), [("alike", (), ())] * 12), Told(SIX, []), Told(("a",), []), SOME, ORDERED, UP):
            self.same(self.answer(stands_all, told), True)
            self.check_worths(told, self.answer(some_worths, told))
            self.same(self.check_word(told, ((), ())), "alike")
            for one in told.things:
                self.same(self.check_word(told, ((one, one), (one, one))), "alike")
        self.same(self.answer(some_worths, EMPTY), {})

    def test_words(self):
        up = Told(SIX, [("heavier", (one,), (other,)) for one, other in zip(SIX, SIX[1:])])
        for told, pair, word in [
            (UP, (("a",), ("c",)), "heavier"), (UP, (("b",), ("c",)), "heavier"),
            (UP, (("a", "b"), ("c", "c")), "heavier"), (UP, (("a",), ()), "open"), (UP, (("c",), ("a",)), "lighter"),
            (UP, (("b", "c"), ("a", "a")), "alike"), (UP, (("a", "a"), ("c",)), "open"),
            (UP, (("a", "a", "a"), ("b", "b", "c")), "lighter"), (up, (("a",), ("f",)), "heavier"),
            (up, (("b", "c"), ("a", "f")), "open"), (up, (("a", "a", "f"), ("b", "b", "f")), "heavier"),
            (up, (("d", "e", "f"), ("a", "b", "c")), "lighter"), (up, (("a", "b"), ()), "open"),
            (SOME, (("b",), ("d",)), "unlike"), (SOME, (("a", "a"), ("c", "c")), "unlike"),
            (SOME, (("a",), ("b",)), "open"), (ORDERED, (("b",), ("d",)), "unlike"),
            (ORDERED, (("a",), ("b",)), "heavier"), (ORDERED, (("a", "a"), ("c", "d")), "heavier"),
            (ORDERED, (("a",), ("c",)), "unlike"), (ORDERED, (("a",), ("c", "c")), "open"),
        ]:
            self.same(self.check_word(told, pair), word)

    def test_an_unlike_pair_may_be_heavier(self):
        told = Told(("a", "b"), [("heavier", ("a",), ()), ("unlike", ("a",), ("b",))])
        self.same(self.check_word(told, (("a",), ("b",))), "unlike")
        told = told.with_telling(("heavier", ("a", "a"), ("b", "b", "b")))
        self.same(self.check_word(told, (("a",), ("b",))), "heavier")
        half = told.without(1)
        self.same(self.check_word(half, (("a",), ("b",))), "heavier")
        self.same(self.check_word(half, (("a",), ("b", "b"))), "open")

    def test_as_all_small_worths_tell(self):
        seen = []
        for told in small_tolds(WORDS, 60) + small_tolds(WORDS, 61, ("a", "b")):
            every = [worths for worths in all_small_worths(told.things, range(-7, 8)) if fit(told, worths)]
            self.same(self.answer(stands_all, told), every != [])
            for pair in pairs(told.things, 1) + pairs(told.things, 2)[::5] + [(("a",), ())] if every else ():
                signs = sorted({sign_of(above(worths, pair)) for worths in every})
                seen.append(self.check_word(told, pair))
                self.assertEqual(SIGNS[seen[-1]], tuple(signs))
        for word in SIGNS:
            self.assertGreater(seen.count(word), 5, word)

    def test_great_tellings(self):
        chance = Random(62)
        some, seen = every_sum(SIX), []
        for told in true_tolds(62, COUNTS * 3) + true_tolds(63, COUNTS, most=1):
            self.same(self.answer(stands_all, told), True)
            self.check_worths(told, self.answer(some_worths, told))
            for _ in range(6):
                seen.append(self.check_word(told, (chance.choice(some), chance.choice(some))))
        for word in ("alike", "heavier", "lighter", "open"):
            self.assertGreater(seen.count(word), 2, word)

    def test_many_unlike_tellings_stand_together(self):
        for seed, things in [(64, SIX), (65, SIX[:3]), (66, SIX[:2])]:
            chance = Random(seed)
            some = [pair for pair in combinations(every_sum(things), 2)]
            apart = Told(things, [("unlike", *pair) for pair in chance.sample(some, min(len(some), 100))])
            self.same(stands_all(apart), True)
            self.check_worths(apart, self.answer(some_worths, apart))
            up = Told(things, [("heavier", (one,), (other,)) for one, other in zip(things, things[1:])])
            self.check_worths(apart | up, self.answer(some_worths, apart | up))
        six = Told(SIX, [("heavier", (one,), (other, other)) for one, other in combinations(SIX[:4], 2)]
                   + [("unlike", (one,), (other,)) for one, other in combinations(SIX[2:], 2)])
        self.same((len(six.rows("heavier")), len(six.rows("unlike"))), (6, 6))
        self.check_worths(six, some_worths(six))

    def test_growing_worths(self):
        steep = Told(SIX, [("heavier", (one,), (other,) * 3) for one, other in zip(SIX, SIX[1:])]
                     + [("heavier", ("f",), ())])
        worths = self.answer(some_worths, steep)
        self.check_worths(steep, worths)
        self.assertGreaterEqual(worths["a"], 364)
        self.same(self.check_word(steep, (("a",), ("b", "c", "d"))), "heavier")
        self.same(self.check_word(steep, (("a", "f", "f"), ("b", "b", "b"))), "heavier")
        self.same(self.check_word(steep, (("a",), ("b", "b", "b"))), "heavier")
        self.same(self.check_word(steep, (("a", "a"), ("b", "b", "b"))), "heavier")

    def test_without_heavier_tellings_all_is_as_the_verdicts_tell(self):
        chance = Random(67)
        for told in small_tolds() + great_tolds():
            self.assertIs(stands_all(told), stands(told))
            some = every_sum(told.things)
            for _ in range(5) if stands(told) else ():
                pair = chance.choice(some), chance.choice(some)
                self.assertEqual(word_of(told, pair), plain_word(told, pair))

    def test_unlike_pairs_hold_one_unlike_telling(self):
        chance = Random(68)
        some = every_sum(SIX)
        for told in true_tolds(69, COUNTS):
            alike, unlike = told.rows("alike"), told.rows("unlike")
            for _ in range(10):
                pair = chance.choice(some), chance.choice(some)
                row, word = row_of(SIX, pair), word_of(told, pair)
                self.assertEqual(word == "alike", plainly_held(alike, row))
                if word in ("unlike", "open"):
                    held = any(plainly_held(alike + [row], one) for one in unlike)
                    self.assertEqual(word, "unlike" if held else "open")

    def test_other_names(self):
        names = dict(zip("abc", ["h", "hh", "x"]))
        for told in small_tolds(WORDS, 70)[::3]:
            other = renamed(told, names)
            self.assertIs(stands_all(other), stands_all(told))
            if stands_all(told):
                self.same(some_worths(other), {names[name]: number for name, number in some_worths(told).items()})
                for one, more in pairs(told.things, 2)[::4]:
                    pair = tuple(names[name] for name in one), tuple(names[name] for name in more)
                    self.assertEqual(word_of(other, pair), word_of(told, (one, more)))
