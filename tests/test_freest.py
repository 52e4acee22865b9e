"""Frames and freest worths [41], and what the guarantees [7] and [11] say of them."""

from itertools import combinations
from random import Random

from asmuchas.errors import NothingFits, Ordered
from asmuchas.freest import frame_of, free, freest, is_freest
from asmuchas.rows import dot, row_of
from asmuchas.told import Told, renamed
from asmuchas.words import pairs
from tests.helpers import (
    BAD, BOTH, EMPTY, LONG, ORDERED, SIX, SOME, Case, above, every_sum, fit, great_tolds, odd_values, plain_heads,
    plain_left, plain_rank, small_tolds, stands_plainly, with_truths,
)


def is_plainly_freest(told, worths):
    """Return whether worths fit and part each pair of which the row is not held, worked out with fractions."""
    heads = plain_heads(told.rows("alike"))
    some = every_sum(told.things)
    kinds = {plain_left(heads, row_of(told.things, (one, ()))) for one in some}
    return fit(told, worths) and len({above(worths, (one, ())) for one in some}) == len(kinds)


class Errors(Case):
    def test_heavier_tellings_are_refused_first(self):
        for told in (ORDERED, BOTH, Told((), [("heavier", (), ())])):
            self.refuses(Ordered, freest, told)
            for thing in odd_values() + [{}, {"a": 1, "b": 0, "c": 0, "d": 1}]:
                self.refuses(Ordered, is_freest, told, thing)

    def test_nothing_fits(self):
        for told in (BAD, Told((), [("unlike", (), ())]), Told(("a",), [("unlike", ("a", "a"), ("a", "a"))])):
            self.refuses(NothingFits, freest, told)
            for thing in odd_values() + [{}, {"a": 1, "b": 0, "c": 0, "d": 1}]:
                self.refuses(NothingFits, is_freest, told, thing)

    def test_frames_look_at_the_alike_ones_alone(self):
        for told in (SOME, BAD.without(2), ORDERED):
            self.same(self.answer(free, told), 3)
            self.same(self.answer(frame_of, told), [(1, 0, 0, 1), (0, 1, 0, 1), (0, 0, 1, -1)])
        for told in (BAD, BOTH):
            self.same(self.answer(free, told), 2)
            self.same(self.answer(frame_of, told), [(1, 0, 1, 0), (0, 1, 0, 1)])


class Frames(Case):
    def test_edges(self):
        self.same([self.answer(frame_of, EMPTY), self.answer(free, EMPTY)], [[], 0])
        units = [tuple(int(place == own) for place in range(6)) for own in range(6)]
        self.same([self.answer(frame_of, Told(SIX, [])), self.answer(free, Told(SIX, []))], [units, 6])
        self.same(self.answer(frame_of, Told(("a", "b"), [("alike", ("a", "a", "a"), ("b",))])), [(1, 3)])
        self.same(self.answer(frame_of, Told(("a", "b"), [("alike", ("a", "a"), ("b", "b"))])), [(1, 1)])
        self.same(self.answer(frame_of, Told(("a",), [("alike", ("a", "a"), ())])), [])

    def test_frames_are_of_worths_that_fit(self):
        for told in small_tolds() + great_tolds():
            found = self.answer(frame_of, told)
            self.assertEqual(len(found), len(told.things) - plain_rank(told.rows("alike")))
            self.same(free(told), len(found))
            self.assertTrue(all(dot(row, one) == 0 for row in found for one in told.rows("alike")))


class Freest(Case):
    def check_freest(self, told):
        """Check that the freest worths of tellings are such."""
        found = self.answer(freest, told)
        self.assertIsInstance(found, dict)
        self.assertEqual(list(found), list(told.things))
        self.assertTrue(all(type(number) is int for number in found.values()))
        self.assertTrue(is_plainly_freest(told, found))
        self.same(self.answer(is_freest, told, found), True)

    def test_edges(self):
        self.same(self.answer(freest, EMPTY), {})
        for told in (SOME, EMPTY, Told((), [("alike", (), ())]), Told(("a",), []), Told(SIX, []),
                     Told(("a", "b"), [("alike", ("a", "a"), ("b", "b"))]),
                     Told(("a", "b", "c"), [("alike", ("a", "a", "a"), ("b",)), ("alike", ("b", "b", "b"), ("c",))]),
                     Told(("a", "b"), [("alike", ("a", "a", "a"), ()), ("unlike", ("a",), ("b",))]),
                     Told(("a", "b", "c"), [("alike", ("b", "b", "c"), ())])):
            self.check_freest(told)
        apart = [("unlike", (one,), (other,)) for one, other in combinations(SIX, 2)]
        self.check_freest(Told(SIX, apart[:12]))

    def test_freest_of_many_tellings(self):
        stood = [told for told in small_tolds() + great_tolds() if stands_plainly(told)]
        self.assertGreater(len(stood), 40)
        for told in stood:
            self.check_freest(told)
        for told in small_tolds() + great_tolds():
            if not stands_plainly(told):
                self.refuses(NothingFits, freest, told)

    def test_one_numbering_parts_all_pairs(self):
        chain = Told(SIX, [("alike", (one, one), (other,)) for one, other in zip(SIX, SIX[1:])])
        found = freest(chain)
        for pair in pairs(SIX, 3) + pairs(SIX, 2) + pairs(SIX, 1):
            self.assertEqual(above(found, pair) == 0, dot(row_of(SIX, pair), (1, 2, 4, 8, 16, 32)) == 0)

    def test_is_freest(self):
        for thing, wanted in [
            ({"a": 0, "b": 0, "c": 1, "d": -1}, False), ({"a": 0, "b": 0, "c": 0, "d": 0}, False),
            ({"d": 36, "c": 1, "b": 32, "a": 5}, True),
            ({"a": 5 * LONG, "d": 36 * LONG, "c": LONG, "b": 32 * LONG}, True),
            ({"a": 5, "b": 32, "c": 1, "d": 37}, False), ({"a": -5, "b": -32, "c": -1, "d": -36}, True),
            ({"a": 1, "b": 10, "c": 9, "d": 2}, False), ({"a": 0, "b": 32, "c": 1, "d": 31}, False),
            ({"a": 5, "b": 32, "c": 1}, False), ({"a": 5, "b": 32, "c": 1, "d": 36, "e": 100}, False),
            ([5, 32, 1, 36], False), ("a 5", False),
        ]:
            self.same(self.answer(is_freest, SOME, thing), wanted)
        self.same(self.answer(is_freest, EMPTY, {}), True)
        self.same(self.answer(is_freest, Told(("a",), []), {"a": 0}), False)
        self.same(self.answer(is_freest, Told(("a",), []), {"a": -LONG}), True)

    def test_any_value(self):
        for told in (SOME, EMPTY, Told(("a",), []), Told(SIX, [])):
            for thing in odd_values():
                self.assertIs(is_freest(told, thing), False)
        for worths in ({"a": 5, "b": 32, "c": 1, "d": 36}, {"a": 36, "b": 1, "c": 32, "d": 5}):
            self.assertIs(is_freest(SOME, worths), True)
            for other in with_truths(worths):
                self.assertIs(is_freest(SOME, other), False)

    def test_is_freest_is_as_the_pairs_tell(self):
        chance = Random(41)
        seen = []
        for told in small_tolds():
            for most in (4, 40) if stands_plainly(told) else ():
                row = freest(told)
                other = {name: chance.randint(-most, most) for name in "cab"}
                if told.rows("alike") == []:
                    row = other
                for worths in (row, other, {name: row[name] * 3 for name in "bca"}):
                    seen.append(is_freest(told, worths))
                    self.assertIs(seen[-1], is_plainly_freest(told, worths))
        self.assertGreater(seen.count(True), 20)
        self.assertGreater(seen.count(False), 20)

    def test_other_names(self):
        names = dict(zip("abc", ["h", "hh", "x"]))
        for told in small_tolds():
            if stands_plainly(told):
                self.same(freest(renamed(told, names)), {names[name]: number for name, number in freest(told).items()})
                self.same(frame_of(renamed(told, names)), frame_of(told))
