"""Clocks [50], [51], and what the guarantees [8] and [11] say of them."""

from itertools import combinations
from random import Random

from asmuchas.clocks import (
    all_worths_on, clock_paper, is_alike_on, is_alike_on_all, is_clock_paper, let_through, parting_on, word_on,
)
from asmuchas.errors import NotHeld, NothingFits, Ordered
from asmuchas.rows import added, mixture, row_of, times
from asmuchas.told import Told, renamed
from asmuchas.words import pairs
from tests.helpers import (
    EMPTY, LONG, SIX, Case, above, all_small_worths, every_sum, fit, great_tolds, odd_values, plainly_held,
    small_tolds, spoiled,
)

THINGS = ("a", "b", "o")
CLOCK = Told(THINGS, [("alike", ("a", "a"), ("b", "o")), ("alike", ("b", "b"), ("o", "o"))])
PAIR = ("b",), ("o",)
APART = CLOCK.with_telling(("unlike", *PAIR))
ORDERED = APART.with_telling(("heavier", ("a",), ("b",)))
THREE = Told(("a", "b", "c"), [("unlike", (one,), (other,)) for one, other in combinations("abc", 2)])
CHAIN = Told(SIX, [("alike", (one,) * 3, (other,)) for one, other in zip(SIX, SIX[1:])] + [("alike", ("f",) * 3, ())])


def alike_ones(told):
    """Return the Told of the alike tellings alone."""
    return Told(told.things, [telling for telling in told if telling[0] == "alike"])


def plain_worths_on(told, size):
    """Return all worths on a clock that fit tellings, by going through all."""
    return [worths for worths in all_small_worths(told.things, range(size)) if fit(told, worths, size)]


def clock_shows(told, pair, size, paper):
    """Return whether a tuple of the right kinds shows what a pair is on a clock, worked out here."""
    if paper[0] == "parted":
        below = all(0 <= number < size for number in paper[1].values())
        return below and fit(alike_ones(told), paper[1], size) and above(paper[1], pair) % size != 0
    whole = mixture(told.rows("alike"), paper[1], len(told.things))
    return added(whole, times(paper[2], size)) == row_of(told.things, pair)


class AlikeOnes(Case):
    def check_pair(self, told, pair, size, alike):
        """Check what is told of a pair on a clock."""
        self.same(self.answer(is_alike_on, told, pair, size), alike)
        worths = self.answer(parting_on, told, pair, size)
        paper = self.answer(clock_paper, told, pair, size)
        self.assertIsInstance(paper, tuple)
        if alike:
            self.same(worths, None)
            self.assertEqual((len(paper), paper[0], len(paper[1])), (3, "alike", len(told.rows("alike"))))
            self.assertEqual((type(paper[1]), type(paper[2]), len(paper[2])), (list, tuple, len(told.things)))
        else:
            self.same(list(worths), list(told.things))
            self.assertTrue(clock_shows(told, pair, size, ("parted", worths)))
            self.assertEqual((len(paper), paper[0], list(paper[1])), (2, "parted", list(told.things)))
        self.assertTrue(clock_shows(told, pair, size, paper))
        self.same(self.answer(is_clock_paper, told, pair, size, paper), True)

    def test_examples(self):
        for size, alike in [(2, True), (3, True), (4, False), (6, True), (8, False), (398, True), (400, False)]:
            for told in (CLOCK, APART, ORDERED):
                self.check_pair(told, PAIR, size, alike)
                self.check_pair(told, PAIR[::-1], size, alike)
        self.same(self.answer(let_through, CLOCK, PAIR), [4])
        self.same(self.answer(is_alike_on_all, CLOCK, PAIR), False)
        self.same(self.answer(is_alike_on_all, CLOCK, (("b", "b"), ("o", "o"))), True)

    def test_edges(self):
        for size in (2, 399, 400):
            for told in (EMPTY, CLOCK, Told(SIX, []), CHAIN):
                self.check_pair(told, ((), ()), size, True)
            self.check_pair(Told(SIX, []), (("a",), ("f",)), size, False)
            self.check_pair(Told(SIX, []), (("a", "a"), ("f", "f")), size, size == 2)
            self.check_pair(Told(("a",), [("alike", ("a", "a", "a"), ())]), (("a",), ()), size, size % 3 != 0)
            self.check_pair(Told(("a",), []), (("a", "a"), ()), size, size == 2)
            self.check_pair(CHAIN, (("a",), ()), size, size % 3 != 0)
            self.check_pair(CHAIN, (("f", "f"), ()), size, True)
        self.same(self.answer(is_alike_on_all, EMPTY, ((), ())), True)
        self.same(self.answer(is_alike_on_all, Told(("a",), []), (("a",), ())), False)
        self.same(self.answer(is_alike_on_all, Told(("a",), []), (("a",), ("a",))), True)
        self.same(self.answer(let_through, EMPTY, ((), ())), [])
        self.same(self.answer(let_through, CHAIN, (("a",), ())), [3])
        self.same(self.answer(let_through, CHAIN, (("e", "e"), ())), [243])
        self.same(self.answer(let_through, CHAIN, (("f", "f"), ())), [729])
        self.same(self.answer(let_through, CHAIN, (("a", "a", "a"), ("b",))), [])
        self.same(self.answer(let_through, Told(("a",), [("alike", ("a", "a"), ())]), (("a",), ())), [2])

    def test_not_held(self):
        for told, pair in [(CLOCK, (("a",), ())), (CLOCK, (("b",), ())), (Told(SIX, []), (("a",), ("f",))),
                           (APART, (("a", "b"), ("o",))), (ORDERED, ((), ("a", "b", "o")))]:
            error = self.refuses(NotHeld, let_through, told, pair)
            self.same(error.row, row_of(told.things, pair))
            self.same(self.answer(is_alike_on_all, told, pair), False)

    def test_as_all_worths_tell(self):
        chance = Random(50)
        words = ["alike", "alike", "unlike", "heavier"]
        for told in small_tolds(words, 50):
            for size in (2, 3, 4, 6):
                every = plain_worths_on(alike_ones(told), size)
                for pair in chance.sample(pairs(told.things, 2), 3) + [(chance.choice(every_sum("abc")), ("a",))]:
                    self.check_pair(told, pair, size, all(above(worths, pair) % size == 0 for worths in every))

    def test_great_tellings(self):
        chance = Random(51)
        some = every_sum(SIX)
        for told in great_tolds(("alike", "unlike", "heavier")):
            for size in (2, 36, 397, 400):
                pair = chance.choice(some), chance.choice(some)
                self.check_pair(told, pair, size, is_alike_on(told, pair, size))

    def test_on_all_clocks(self):
        sizes = list(range(2, 50)) + [64, 81, 100, 125, 128, 200, 243, 256, 360, 400]
        for told in small_tolds(["alike", "alike", "heavier"], 52):
            for pair in pairs(told.things, 1) + pairs(told.things, 2)[::4] + [(("a", "b"), ())]:
                alike = [is_alike_on(told, pair, size) for size in sizes]
                self.same(self.answer(is_alike_on_all, told, pair), all(alike))
                if plainly_held(told.rows("alike"), row_of(told.things, pair)):
                    powers = self.answer(let_through, told, pair)
                    self.assertEqual(powers == [], all(alike))
                    self.assertEqual(alike, [all(size % power for power in powers) for size in sizes])
                else:
                    self.refuses(NotHeld, let_through, told, pair)


class Shown(Case):
    def test_alike(self):
        for size, thing, wanted in [
            (2, ("alike", [1, 0], (-1, 1, 0)), True), (2, ("alike", [1, 1], (-1, 0, 1)), True),
            (2, ("alike", [3, 0], (-3, 2, 1)), True), (3, ("alike", [0, 2], (0, -1, 1)), True),
            (2, ("alike", [1, 0], [-1, 1, 0]), False), (2, ("alike", (1, 0), (-1, 1, 0)), False),
            (2, ("alike", [1], (-1, 1, 0)), False), (2, ("alike", [1, 0, 0], (-1, 1, 0)), False),
            (2, ("alike", [1, 0], (-1, 1)), False), (2, ("alike", [1, 0], (-1, 1, 0, 0)), False),
            (2, ("alike", [True, 0], (-1, 1, 0)), False), (2, ("alike", [1, False], (-1, 1, 0)), False),
            (2, ("alike", [1, 0], (-1, True, 0)), False), (2, ("alike", [1, 0], (-1, 1, False)), False),
            (2, ("alike", [1, 0], (-1, 1, None)), False), (2, ("alike", [1, "0"], (-1, 1, 0)), False),
            (2, ("alike", [1, 0]), False), (2, ("alike", [1, 0], (-1, 1, 0), 0), False), (2, ("alike",), False),
            (2, ["alike", [1, 0], (-1, 1, 0)], False), (2, ("unlike", [1, 0], (-1, 1, 0)), False),
            (4, ("alike", [1, 0], (-1, 1, 0)), False), (2, ("alike", [0, 0], (-1, 1, 0)), False),
            (2, ("alike", [1, 0], (1, -1, 0)), False), (2, ("parted", [1, 0], (-1, 1, 0)), False),
            (3, ("alike", [3 * LONG, 2], (-2 * LONG, LONG - 1, LONG + 1)), True),
        ]:
            for told in (CLOCK, APART, ORDERED):
                self.same(self.answer(is_clock_paper, told, PAIR, size, thing), wanted)
        self.same(self.answer(is_clock_paper, EMPTY, ((), ()), 400, ("alike", [], ())), True)
        self.same(self.answer(is_clock_paper, EMPTY, ((), ()), 400, ("alike", [], [])), False)
        self.same(self.answer(is_clock_paper, EMPTY, ((), ()), 400, ("parted", {})), False)

    def test_parted(self):
        for size, worths, wanted in [
            (4, {"a": 1, "b": 2, "o": 0}, True), (4, {"o": 2, "b": 0, "a": 3}, True),
            (400, {"a": 100, "b": 200, "o": 0}, True), (4, {"a": 1, "b": 2, "o": 4}, False),
            (4, {"a": 1, "b": -2, "o": 0}, False), (4, {"a": 5, "b": 2, "o": 0}, False),
            (4, {"a": 2, "b": 2, "o": 2}, False), (4, {"a": 0, "b": 1, "o": 3}, True),
            (4, {"a": 0, "b": 1, "o": 2}, False), (4, {"a": True, "b": 2, "o": 0}, False),
            (4, {"a": 1, "b": 2, "o": False}, False),
            (4, {"a": 1, "b": 2}, False), (4, {"a": 1, "b": 2, "o": 0, "z": 0}, False), (4, [1, 2, 0], False),
            (2, {"a": 1, "b": 1, "o": 0}, False), (8, {"a": 1, "b": 2, "o": 0}, False),
            (4, {"a": 1, "b": LONG, "o": 0}, False), (4, {"a": 1, "b": 2, 0: 0}, False),
        ]:
            for told in (CLOCK, APART, ORDERED):
                self.same(self.answer(is_clock_paper, told, PAIR, size, ("parted", worths)), wanted)
                for thing in (("parted", worths, None), ["parted", worths], ("alike", worths), ("open", worths)):
                    self.same(self.answer(is_clock_paper, told, PAIR, size, thing), False)

    def test_any_value(self):
        for told, pair, size in [(CLOCK, PAIR, 2), (CLOCK, PAIR, 4), (EMPTY, ((), ()), 2), (ORDERED, PAIR, 400)]:
            for thing in odd_values():
                self.assertIs(is_clock_paper(told, pair, size, thing), False)
        for size in (2, 4, 399, 400):
            for thing in spoiled(clock_paper(CLOCK, PAIR, size)):
                self.assertIs(is_clock_paper(CLOCK, PAIR, size, thing), False)
        for thing in spoiled(("alike", [1, 0], (-1, 1, 0))):
            self.assertIs(is_clock_paper(CLOCK, PAIR, 2, thing), False)
        for thing in spoiled(("parted", {"a": 1, "b": 2, "o": 0})):
            self.assertIs(is_clock_paper(CLOCK, PAIR, 4, thing), False)

    def test_papers_with_other_numbers(self):
        chance = Random(53)
        seen = []
        for told in small_tolds(["alike", "unlike"], 53):
            for size in (2, 3, 8):
                pair = chance.choice(pairs(told.things, 2))
                word, *parts = clock_paper(told, pair, size)
                for _ in range(4):
                    if word == "parted":
                        thing = word, {name: number + chance.choice([0, 0, 1, 4]) for name, number in parts[0].items()}
                    else:
                        numbers = [number + chance.choice([0, 0, size, 1]) for number in parts[0]]
                        whole = mixture(told.rows("alike"), numbers, 3)
                        rest = [(one - other) // size for one, other in zip(row_of(told.things, pair), whole)]
                        thing = word, numbers, tuple(rest)
                    seen.append(is_clock_paper(told, pair, size, thing))
                    self.assertIs(seen[-1], clock_shows(told, pair, size, thing))
        self.assertGreater(seen.count(True), 100)
        self.assertGreater(seen.count(False), 100)


class AllWorths(Case):
    def test_heavier_tellings_are_refused_first(self):
        for told in (ORDERED, ORDERED.with_telling(("unlike", ("a",), ("a",))), Told((), [("heavier", (), ())])):
            for size in (2, 3, 4):
                self.refuses(Ordered, all_worths_on, told, size)
                self.refuses(Ordered, word_on, told, ((), ()), size)

    def test_nothing_fits(self):
        self.same(self.answer(all_worths_on, THREE, 2), [])
        self.same(self.answer(all_worths_on, APART, 6), [])
        self.same(self.answer(all_worths_on, Told((), [("unlike", (), ())]), 400), [])
        self.same(self.answer(all_worths_on, Told(("a",), [("unlike", ("a", "a"), ())]), 2), [])
        for told, pair, size in [(THREE, (("a",), ("b",)), 2), (APART, PAIR, 6), (APART, ((), ()), 2),
                                 (Told((), [("unlike", (), ())]), ((), ()), 400)]:
            self.refuses(NothingFits, word_on, told, pair, size)

    def test_edges(self):
        for size in (2, 3, 400):
            self.same(self.answer(all_worths_on, EMPTY, size), [{}])
            self.same(self.answer(word_on, EMPTY, ((), ()), size), "alike")
            self.same(self.answer(all_worths_on, Told(("a",), []), size), [{"a": number} for number in range(size)])
        self.same(len(self.answer(all_worths_on, CLOCK, 4)), 16)
        found = self.answer(all_worths_on, Told(SIX, []), 4)
        self.same(len(found), 4096)
        self.same([found[0], found[1], found[-1]],
                  [dict.fromkeys(SIX, 0), {**dict.fromkeys(SIX, 0), "f": 1}, dict.fromkeys(SIX, 3)])
        apart = Told(SIX, [("unlike", (one,), (other,)) for one, other in zip(SIX, SIX[1:])])
        self.same(self.answer(all_worths_on, apart, 2),
                  [dict(zip(SIX, (0, 1) * 3)), dict(zip(SIX, (1, 0) * 3))])
        found = self.answer(all_worths_on, Told(("a", "b"), [("unlike", ("a",), ("b",))]), 64)
        self.same((len(found), found[:2], found[63]), (4032, [{"a": 0, "b": 1}, {"a": 0, "b": 2}], {"a": 1, "b": 0}))

    def test_words(self):
        for pair, size, word in [
            ((("a",), ("b",)), 4, "unlike"), (PAIR, 4, "unlike"), (PAIR[::-1], 8, "unlike"), (((), ()), 4, "alike"),
            ((("b", "b"), ("o", "o")), 4, "alike"), ((("a",), ()), 4, "open"), (((), ("a",)), 4, "open"),
            ((("a", "a"), ("b", "o")), 4, "alike"), ((("b",), ("o", "o", "o")), 4, "open"),
        ]:
            self.same(self.answer(word_on, APART, pair, size), word)
        self.same(self.answer(word_on, THREE, (("a", "b"), ("c", "c")), 3), "alike")
        self.same(self.answer(word_on, THREE, (("a", "b"), ("c", "c")), 5), "open")
        self.same(self.answer(word_on, THREE, (("a",), ("b",)), 3), "unlike")

    def test_as_all_worths_tell(self):
        seen = []
        for told in small_tolds():
            for size in (2, 3, 4, 5):
                found = self.answer(all_worths_on, told, size)
                self.same(found, plain_worths_on(told, size))
                for pair in pairs(told.things, 2)[::4] + [(("a", "b", "c"), ())]:
                    alike = [above(worths, pair) % size == 0 for worths in found]
                    if alike:
                        seen.append("alike" if all(alike) else "open" if any(alike) else "unlike")
                        self.same(self.answer(word_on, told, pair, size), seen[-1])
                    else:
                        self.refuses(NothingFits, word_on, told, pair, size)
        for word in ("alike", "unlike", "open"):
            self.assertGreater(seen.count(word), 50)

    def test_great_tellings(self):
        for told in great_tolds():
            for size in (2, 3):
                self.same(self.answer(all_worths_on, told, size), plain_worths_on(told, size))

    def test_other_names(self):
        names = dict(zip("abc", ["h", "hh", "x"]))
        for told in small_tolds()[::3]:
            for size in (2, 5):
                wanted = [{names[name]: number for name, number in worths.items()}
                          for worths in all_worths_on(told, size)]
                self.same(all_worths_on(renamed(told, names), size), wanted)
