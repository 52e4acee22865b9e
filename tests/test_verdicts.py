"""Verdicts [40], and what the guarantees [5], [6] and [11] say of them."""

from itertools import combinations
from random import Random

from asmuchas.divisors import is_held
from asmuchas.errors import NothingFits, Ordered
from asmuchas.rows import row_of
from asmuchas.told import Told, renamed
from asmuchas.verdicts import alike_sums, barring, can_be_alike, plain_word, stands
from asmuchas.words import pairs, sums
from asmuchas.worths import fits, word_in
from tests.helpers import (
    BAD, BOTH, EMPTY, ORDERED, SIX, SOME, Case, all_small_worths, plainly_held, small_tolds,
)

ASKS = [
    (plain_word, (("a",), ("c",))), (can_be_alike, []), (can_be_alike, [(("a",), ("c",))]), (barring, []),
    (barring, [(("a",), ("c",))]), (alike_sums, 0), (alike_sums, 2),
]


def small_worths(told):
    """Return the worths from -6 to 6 that fit tellings."""
    return [worths for worths in all_small_worths(told.things, range(-6, 7)) if fits(told, worths)]


def alike_in(worths, some):
    """Return whether all of some pairs are alike in worths."""
    return all(word_in(worths, pair) == "alike" for pair in some)


class Errors(Case):
    def test_heavier_tellings_are_refused_first(self):
        for told in (ORDERED, BOTH, Told(("a", "b"), [("heavier", ("a",), ("b",))]), Told((), [("heavier", (), ())])):
            self.refuses(Ordered, stands, told)
            for function, asked in ASKS:
                self.refuses(Ordered, function, told, asked)

    def test_nothing_fits(self):
        for told in (BAD, Told(SOME.things, [("unlike", ("a",), ("a",))]), BAD.with_telling(("alike", (), ()))):
            self.same(self.answer(stands, told), False)
            for function, asked in ASKS:
                self.refuses(NothingFits, function, told, asked)

    def test_nothing_is_changed(self):
        self.same([len(SOME), len(BAD), len(ORDERED), len(BOTH)], [2, 3, 3, 4])
        self.same(SOME.tellings(), [("alike", ("a", "b"), ("c", "d")), ("unlike", ("a",), ("c",))])


class Words(Case):
    def test_stands(self):
        self.same(self.answer(stands, SOME), True)
        self.same(self.answer(stands, EMPTY), True)
        self.same(self.answer(stands, Told((), [("unlike", (), ())])), False)
        self.same(self.answer(stands, Told((), [("alike", (), ()), ("alike", (), ())])), True)
        self.same(self.answer(stands, Told(SIX, [])), True)
        apart = [("unlike", (one,), (other,)) for one, other in combinations(SIX, 2)]
        self.same(self.answer(stands, Told(SIX, apart[:12])), True)
        self.same(self.answer(stands, Told(SIX, apart)), True)
        chain = [("alike", (one, one), (other, other)) for one, other in zip(SIX, SIX[1:])]
        self.same(self.answer(stands, Told(SIX, chain + [("unlike", ("a",), ("f",))])), False)
        self.same(self.answer(stands, Told(SIX, chain + [("unlike", ("a",), ("f", "f"))] * 2)), True)
        self.same(self.answer(stands, Told(("a",), [("alike", ("a", "a", "a"), ()), ("unlike", ("a",), ())])), False)

    def test_plain_word(self):
        for pair, word in [
            ((("a", "b"), ("c", "d")), "alike"), ((("b",), ("d",)), "unlike"), ((("a",), ("b",)), "open"),
            ((("a", "a"), ("c", "c")), "unlike"), (((), ()), "alike"), ((("a",), ()), "open"),
            ((("a", "b", "b"), ("b", "c", "d")), "alike"), ((("a", "a", "a"), ("c", "c", "c")), "unlike"),
            ((("c", "c", "d"), ("a", "b", "c")), "alike"), ((("a", "d"), ("b", "c")), "unlike"),
        ]:
            self.same(self.answer(plain_word, SOME, pair), word)
            self.same(self.answer(plain_word, SOME, pair[::-1]), word)
        self.same(self.answer(plain_word, EMPTY, ((), ())), "alike")
        halves = Told(("a", "b"), [("alike", ("a", "a"), ("b", "b"))])
        self.same(self.answer(plain_word, halves, (("a",), ("b",))), "alike")

    def test_words_are_as_the_worths_tell(self):
        seen = set()
        for told in small_tolds():
            found = small_worths(told)
            self.assertIs(stands(told), found != [])
            for pair in pairs(told.things, 2) + pairs(told.things, 1) + [((), ()), (("a",), ())]:
                if found:
                    alike = [word_in(worths, pair) == "alike" for worths in found]
                    word = "alike" if all(alike) else "open" if any(alike) else "unlike"
                    self.assertEqual(plain_word(told, pair), word)
                    seen.add(word)
        self.assertEqual(seen, {"alike", "open", "unlike"})

    def test_words_are_as_the_rows_tell(self):
        chance = Random(5)
        some = pairs(SIX, 1) + pairs(SIX, 2) + pairs(SIX, 3)
        for many in (0, 1, 4, 8, 12) * 8:
            words = ["alike", "alike", "unlike"]
            told = Told(SIX, [(chance.choice(words), *chance.choice(some)) for _ in range(many)])
            alike, unlike = told.rows("alike"), told.rows("unlike")
            self.assertIs(stands(told), not any(plainly_held(alike, row) for row in unlike))
            if stands(told):
                for pair in chance.sample(some, 30):
                    row = row_of(SIX, pair)
                    word = "unlike" if any(plainly_held(alike + [row], one) for one in unlike) else "open"
                    self.assertEqual(plain_word(told, pair), "alike" if is_held(alike, row) else word)

    def test_other_names_change_no_word(self):
        names = dict(zip("abc", ["h", "hh", "x"]))
        for told in small_tolds():
            other = renamed(told, names)
            self.assertIs(stands(other), stands(told))
            if stands(told):
                for one, more in pairs(told.things, 2):
                    pair = tuple(names[name] for name in one), tuple(names[name] for name in more)
                    self.assertEqual(plain_word(other, pair), plain_word(told, (one, more)))


class Together(Case):
    def test_can_be_alike(self):
        first, second, third = (("a",), ("b",)), (("b",), ("c",)), (("b",), ("a",))
        self.same(self.answer(can_be_alike, SOME, []), True)
        self.same(self.answer(can_be_alike, SOME, [first]), True)
        self.same(self.answer(can_be_alike, SOME, [first, third, first]), True)
        self.same(self.answer(can_be_alike, SOME, [first, second]), False)
        self.same(self.answer(can_be_alike, SOME, [(("b",), ("d",))]), False)
        self.same(self.answer(can_be_alike, EMPTY, [((), ())]), True)
        self.same(self.answer(can_be_alike, Told(SIX, []), pairs(SIX, 2)), True)

    def test_can_be_alike_is_as_the_worths_tell(self):
        chance = Random(41)
        for told in small_tolds():
            found = small_worths(told)
            for many in (1, 2, 3) if found else ():
                some = chance.sample(pairs(told.things, 2), many)
                self.assertIs(can_be_alike(told, some), any(alike_in(worths, some) for worths in found))

    def test_barring(self):
        asked = [(("a",), ("b",)), (("b",), ("c",)), (("b",), ("a",))]
        self.same(self.answer(barring, SOME, asked), [[0, 1], [1, 2]])
        self.same(self.answer(barring, SOME, []), [])
        self.same(self.answer(barring, EMPTY, [((), ())] * 6), [])
        self.same(self.answer(barring, SOME, asked[:1] * 6), [])
        self.same(self.answer(barring, SOME, [(("a",), ("c",)), asked[0], (("c",), ("a",)), asked[1]]),
                  [[0], [2], [1, 3]])
        chain = [((one,), (other,)) for one, other in zip(SIX, SIX[1:])]
        ends = Told(SIX, [("unlike", ("a",), ("f",))])
        self.same(self.answer(barring, ends, chain), [[0, 1, 2, 3, 4]])
        self.same(self.answer(barring, ends, [(("b",), ("e",))] + chain), [[0, 1, 5], [1, 2, 3, 4, 5]])
        self.same(self.answer(barring, ends, [(("a",), ("f",))] * 8), [[index] for index in range(8)])

    def test_barring_is_as_can_be_alike_tells(self):
        chance = Random(42)
        for told in small_tolds():
            if stands(told):
                some = chance.sample(pairs(told.things, 2), 6)
                wanted = []
                for many in range(1, 7):
                    for one in combinations(range(6), many):
                        if not any(set(less) <= set(one) for less in wanted):
                            if not can_be_alike(told, [some[index] for index in one]):
                                wanted.append(list(one))
                self.same(self.answer(barring, told, some), wanted)

    def test_alike_sums(self):
        self.same(self.answer(alike_sums, SOME, 1), [[("a",)], [("b",)], [("c",)], [("d",)]])
        found = self.answer(alike_sums, SOME, 2)
        self.assertEqual(len(found), 9)
        self.assertIn([("a", "b"), ("c", "d")], found)
        self.same(self.answer(alike_sums, SOME, 0), [[()]])
        self.same(self.answer(alike_sums, EMPTY, 0), [[()]])
        for many in (1, 2, 3):
            self.same(self.answer(alike_sums, EMPTY, many), [])
        halves = Told(("a", "b", "c"), [("alike", ("a", "a"), ("c", "c"))])
        self.same(self.answer(alike_sums, halves, 1), [[("a",), ("c",)], [("b",)]])
        self.same(self.answer(alike_sums, halves, 2),
                  [[("a", "a"), ("a", "c"), ("c", "c")], [("a", "b"), ("b", "c")], [("b", "b")]])
        self.assertEqual(len(self.answer(alike_sums, Told(SIX, []), 2)), 21)

    def test_alike_sums_are_alike_in_all_worths(self):
        for told in small_tolds():
            for many in (1, 2, 3) if stands(told) else ():
                found = self.answer(alike_sums, told, many)
                wanted = []
                for one in sums(told.things, many):
                    for some in wanted:
                        if plain_word(told, (some[0], one)) == "alike":
                            some.append(one)
                            break
                    else:
                        wanted.append([one])
                self.same(found, wanted)
