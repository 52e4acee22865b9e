"""Plainest worths [70], and what the guarantee [11] says of them."""

from itertools import combinations

from asmuchas.errors import NothingFits, TooMany, Unbalanced
from asmuchas.orders import stands_all
from asmuchas.plainest import is_plainest, plainest
from asmuchas.told import Told, renamed
from tests.helpers import EMPTY, LONG, SIX, Case, all_small_worths, balanced_tolds, fit, odd_values, with_truths

FIVE = SIX[:5]
PARTED = Told(("a", "b", "c"), [("alike", ("a", "a"), ("b", "c")), ("unlike", ("b",), ("c",))])
UP = Told(FIVE, [("heavier", (one,), (other,)) for one, other in zip(FIVE, FIVE[1:])])
STEEP = Told(("a", "b", "c", "d"), [("heavier", ("b",), ("a",)), ("heavier", ("a", "a", "c"), ("b", "b", "b")),
                                    ("heavier", ("b", "d"), ("c", "c"))])
BAD = PARTED.with_telling(("alike", ("b",), ("c",)))
TILTED = Told(("a", "b"), [("heavier", ("a",), ())])
BOTH = Told(("a",), [("heavier", ("a",), ()), ("heavier", (), ("a",))])


def plain_plainest(told, most):
    """Return the plainest worths by going through all worths, or None if one would be above most."""
    for greatest in range(most + 1):
        for worths in all_small_worths(told.things, range(greatest + 1)):
            if fit(told, worths):
                return worths
    return None


class Errors(Case):
    def test_unbalanced_tellings_are_refused_first(self):
        for told in (TILTED, BOTH, BAD.with_telling(("unlike", ("a",), ())), Told((), [("heavier", (), ())]) | TILTED,
                     STEEP.with_telling(("alike", ("a",) * 3, ()))):
            for most in (0, 9):
                self.refuses(Unbalanced, plainest, told, most=most)
                for thing in odd_values() + [{}, {"a": 1, "b": 0}]:
                    self.refuses(Unbalanced, is_plainest, told, thing, most=most)

    def test_nothing_fits(self):
        round_about = UP.with_telling(("heavier", ("e",), ("a",)))
        for told in (BAD, round_about, Told((), [("heavier", (), ())]), Told((), [("unlike", (), ())]),
                     Told(("a",), [("unlike", ("a",), ("a",))]), STEEP.with_telling(("heavier", ("b",), ("c",)))):
            for most in (0, 9):
                self.refuses(NothingFits, plainest, told, most=most)
                for thing in odd_values() + [{}, {"a": 1, "b": 0, "c": 2}]:
                    self.refuses(NothingFits, is_plainest, told, thing, most=most)

    def test_too_many(self):
        for told, greatest in [(PARTED, 2), (UP, 4), (STEEP, 8), (Told(("a", "b"), [("unlike", ("a",), ("b",))]), 1)]:
            for most in range(10):
                if most < greatest:
                    self.assertIs(self.refuses(TooMany, plainest, told, most=most).limit, most)
                    for thing in odd_values()[:9] + [plainest(told)]:
                        self.assertIs(self.refuses(TooMany, is_plainest, told, thing, most=most).limit, most)
                else:
                    found = self.answer(plainest, told, most=most)
                    self.same(found, plainest(told))
                    self.same(max(found.values()), greatest)
                    self.same(self.answer(is_plainest, told, found, most=most), True)

    def test_too_many_for_nine(self):
        flat = [("heavier", (two,) * 3, (zero, one, one)) for zero, one, two in zip("abc", "bcd", "cde")]
        flat += [("heavier", ("b",), ("a",)), ("heavier", ("c",), ("b",))]
        steep = [("heavier", ("b",), ("a",)), ("heavier", ("a", "a", "c"), ("b", "b", "b")),
                 ("heavier", ("b", "b", "d"), ("c", "c", "c")), ("heavier", ("c", "c", "e"), ("d", "d", "d"))]
        for things in (FIVE, FIVE[::-1], ("c", "a", "e", "b", "d"), ("d", "b", "a", "e", "c")):
            names = dict(zip(FIVE, things))
            found = plainest(renamed(Told(FIVE, flat), names))
            self.same([found[name] for name in things], [0, 1, 2, 2, 3])
            told = renamed(Told(FIVE, steep), names)
            self.assertEqual(self.refuses(TooMany, plainest, told).limit, 9)
            self.assertEqual(self.refuses(TooMany, is_plainest, told, dict.fromkeys(FIVE, 0)).limit, 9)


class Plainest(Case):
    def test_edges(self):
        self.same(self.answer(plainest, EMPTY), {})
        self.same(self.answer(plainest, EMPTY, most=0), {})
        self.same(self.answer(plainest, Told((), [("alike", (), ())]), most=0), {})
        self.same(self.answer(plainest, Told(FIVE, []), most=0), dict.fromkeys(FIVE, 0))
        self.same(self.answer(plainest, Told(("a",), [("alike", ("a",), ("a",))])), {"a": 0})
        self.same(self.answer(plainest, PARTED), {"a": 1, "b": 0, "c": 2})
        self.same(self.answer(plainest, UP), {"a": 4, "b": 3, "c": 2, "d": 1, "e": 0})
        apart = Told(FIVE, [("unlike", (one,), (other,)) for one, other in combinations(FIVE, 2)])
        self.same(self.answer(plainest, apart), {"a": 0, "b": 1, "c": 2, "d": 3, "e": 4})
        self.same(self.answer(plainest, Told(FIVE, apart.tellings()[:7]), most=9),
                  plain_plainest(Told(FIVE, apart.tellings()[:7]), 9))
        held = Told(("a", "b"), [("alike", ("a", "a"), ("b", "b")), ("alike", ("a",), ("b",))])
        self.same(self.answer(plainest, held), {"a": 0, "b": 0})
        halves = Told(("a", "b", "c"), [("alike", ("a", "b", "b"), ("c", "c", "c")), ("heavier", ("a",), ("c",))])
        self.same(self.answer(plainest, halves), {"a": 3, "b": 0, "c": 1})
        self.same(self.answer(plainest, STEEP), plain_plainest(STEEP, 9))

    def test_going_through_all_worths(self):
        seen = []
        for told in balanced_tolds(70, SIX[:3]) + balanced_tolds(71, SIX[:4]) + balanced_tolds(72, SIX[:2]):
            if not stands_all(told):
                self.refuses(NothingFits, plainest, told)
                continue
            wanted = plain_plainest(told, 5)
            if wanted is None:
                self.assertEqual(self.refuses(TooMany, plainest, told, most=5).limit, 5)
            else:
                self.same(self.answer(plainest, told, most=5), wanted)
                self.same(self.answer(plainest, told), wanted)
                self.same(min(wanted.values()), 0)
                self.same(is_plainest(told, wanted, most=5), True)
                self.same(is_plainest(told, {**wanted, "a": wanted["a"] + 1}), False)
                seen.append(max(wanted.values()))
        for greatest in range(5):
            self.assertIn(greatest, seen)

    def test_five_things(self):
        for told in balanced_tolds(73, FIVE)[::4]:
            if stands_all(told):
                wanted = plain_plainest(told, 3)
                if wanted is None:
                    self.refuses(TooMany, plainest, told, most=3)
                else:
                    self.same(plainest(told), wanted)

    def test_is_plainest(self):
        for thing, wanted in [
            ({"a": 1, "b": 0, "c": 2}, True), ({"c": 2, "b": 0, "a": 1}, True), ({"a": 1, "b": 2, "c": 0}, False),
            ({"a": 2, "b": 1, "c": 3}, False), ({"a": 2, "b": 0, "c": 4}, False), ({"a": 1, "b": 0}, False),
            ({"a": 1, "b": 0, "c": 2, "d": 0}, False), ({"a": True, "b": 0, "c": 2}, False),
            ({"a": 1, "b": False, "c": 2}, False), ([1, 0, 2], False), ((("a", 1), ("b", 0), ("c", 2)), False),
            ({"a": 1, "b": 0, "c": LONG}, False), ({"a": 1, "b": 0, 2: 2}, False), ({"a": 1, "b": 0, "c": "2"}, False),
            ({"a": 0, "b": 0, "c": 0}, False), ({"a": -1, "b": -2, "c": 0}, False),
        ]:
            self.same(self.answer(is_plainest, PARTED, thing), wanted)
        self.same(self.answer(is_plainest, EMPTY, {}, most=0), True)

    def test_any_value(self):
        for told in (PARTED, UP, EMPTY, Told(("a",), []), Told(FIVE, [])):
            for thing in odd_values() + with_truths(plainest(told)):
                self.assertIs(is_plainest(told, thing), False)

    def test_other_names(self):
        names = dict(zip("abc", ["h", "hh", "x"]))
        for told in balanced_tolds(74, SIX[:3])[::4]:
            if stands_all(told):
                self.same(plainest(renamed(told, names)),
                          {names[name]: number for name, number in plainest(told).items()})
