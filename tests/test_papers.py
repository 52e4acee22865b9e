"""Papers of tellings without heavier ones [42], and what the guarantee [5] says of them."""

from random import Random

from asmuchas.errors import NothingFits, Ordered
from asmuchas.papers import is_plain_paper, plain_paper
from asmuchas.rows import added, mixture, row_of, times
from asmuchas.told import Told
from asmuchas.verdicts import plain_word
from asmuchas.words import pairs
from tests.helpers import (
    BAD, BOTH, EMPTY, LONG, ORDERED, SIX, SOME, Case, above, every_sum, fit, great_tolds, odd_values, plainly_held,
    small_tolds, spoiled, stands_plainly,
)

ALIKE, UNLIKE, OPEN = (("a", "b"), ("c", "d")), (("b",), ("d",)), (("a",), ("b",))
SAME, OTHER = {"a": 1, "b": 1, "c": 0, "d": 2}, {"a": 2, "b": 1, "c": 0, "d": 3}
HALVES = Told(("a", "b"), [("alike", ("a", "a"), ("b", "b")), ("unlike", ("a", "a", "a"), ())])
THIRDS = Told(("a", "b", "c"), [("alike", ("a", "a", "a"), ("b", "b", "b")), ("unlike", ("b",), ("c",))])


def shows(told, pair, paper):
    """Return whether a tuple of the right kinds shows the word of a pair, worked out here."""
    word, row, many = paper[0], row_of(told.things, pair), len(told.things)
    if word == "open":
        first, second = paper[1:]
        return fit(told, first) and fit(told, second) and above(first, pair) == 0 != above(second, pair)
    if word == "alike":
        _, number, numbers = paper
        return number > 0 and times(row, number) == mixture(told.rows("alike"), numbers, many)
    _, index, number, other, numbers = paper
    held = row_of(told.things, told[index][1:])
    made = added(times(row, other), mixture(told.rows("alike"), numbers, many))
    return told[index][0] == "unlike" and number > 0 and times(held, number) == made


class Errors(Case):
    def test_heavier_tellings_are_refused_first(self):
        for told in (ORDERED, BOTH):
            for pair in (ALIKE, UNLIKE, OPEN):
                self.refuses(Ordered, plain_paper, told, pair)
                for thing in [("alike", 1, [1]), ("open", SAME, OTHER), None]:
                    self.refuses(Ordered, is_plain_paper, told, pair, thing)

    def test_nothing_fits(self):
        bare = Told((), [("unlike", (), ())])
        for told, pair in [(BAD, ALIKE), (BAD, UNLIKE), (BAD, OPEN), (bare, ((), ()))]:
            self.refuses(NothingFits, plain_paper, told, pair)
            for thing in odd_values() + [("alike", 1, [1]), ("open", SAME, OTHER), ("alike", 1, [])]:
                self.refuses(NothingFits, is_plain_paper, told, pair, thing)


class Papers(Case):
    def check_paper(self, told, pair, word):
        """Check that the paper of a pair shows its word."""
        paper = self.answer(plain_paper, told, pair)
        self.assertIsInstance(paper, tuple)
        self.assertEqual(paper[0], word)
        self.assertEqual(len(paper), 5 if word == "unlike" else 3)
        if word == "open":
            self.assertTrue(all(list(worths) == list(told.things) for worths in paper[1:]))
        else:
            self.assertTrue(all(type(number) is int for number in (*paper[1:-1], *paper[-1])))
            self.assertEqual(len(paper[-1]), len(told.rows("alike")))
        self.assertTrue(shows(told, pair, paper))
        self.same(self.answer(is_plain_paper, told, pair, paper), True)
        return paper

    def test_papers(self):
        self.same(self.check_paper(SOME, ALIKE, "alike"), ("alike", 1, [1]))
        self.same(self.check_paper(SOME, ALIKE[::-1], "alike"), ("alike", 1, [-1]))
        for pair in (UNLIKE, UNLIKE[::-1], (("a", "a"), ("c", "c")), (("a", "d"), ("b", "c"))):
            self.check_paper(SOME, pair, "unlike")
        for pair in (OPEN, OPEN[::-1], ((), ("a",)), (("a", "a", "a"), ())):
            self.check_paper(SOME, pair, "open")
        for told in (SOME, EMPTY, Told(SIX, []), HALVES):
            self.assertEqual(self.check_paper(told, ((), ()), "alike")[1], 1)
        self.same(self.check_paper(HALVES, (("b",), ("a",)), "alike"), ("alike", 2, [-1]))
        self.same(self.check_paper(THIRDS, (("a",), ("b",)), "alike"), ("alike", 3, [1]))
        self.check_paper(HALVES, (("a",), ()), "unlike")
        self.check_paper(THIRDS, (("a", "b"), ("c", "c")), "unlike")
        self.check_paper(Told(SIX, []), (("a", "a", "a"), ("f",)), "open")

    def test_the_number_of_alike_pairs_is_the_divisor(self):
        seen = set()
        for told in small_tolds() + great_tolds():
            for pair in pairs(told.things, 1) + [(("a",), ())] if stands_plainly(told) else ():
                if plainly_held(told.rows("alike"), row_of(told.things, pair)):
                    _, number, _ = self.check_paper(told, pair, "alike")
                    for less in range(1, min(number, 50)):
                        wrong = plain_paper(told, pair)[:1] + (less, plain_paper(told, pair)[2])
                        self.assertFalse(is_plain_paper(told, pair, wrong))
                    seen.add(number)
        self.assertIn(1, seen)
        self.assertIn(2, seen)

    def test_papers_of_many_tellings(self):
        chance = Random(42)
        seen = []
        for told in [told for told in small_tolds() + great_tolds() if stands_plainly(told)]:
            some = every_sum(told.things)
            for _ in range(12):
                pair = chance.choice(some), chance.choice(some)
                seen.append(plain_word(told, pair))
                self.check_paper(told, pair, seen[-1])
        for word in ("alike", "unlike", "open"):
            self.assertGreater(seen.count(word), 20)


class Shown(Case):
    def check_shown(self, told, pair, thing, wanted):
        """Check whether a value is taken for a paper of a pair."""
        self.same(self.answer(is_plain_paper, told, pair, thing), wanted)

    def test_alike(self):
        pair = ("a",), ("b",)
        for thing, wanted in [
            (("alike", 2, [1]), True), (("alike", 4, [2]), True), (("alike", 2 * LONG, [LONG]), True),
            (("alike", 1, [1]), False), (("alike", 0, [0]), False), (("alike", -2, [-1]), False),
            (("alike", 2, [1, 0]), False), (("alike", 2, []), False), (("alike", 2, (1,)), False),
            (("alike", 2, [True]), False), (("alike", 2, 1), False), (("alike", 2, [1], []), False),
            (("alike", 2), False), (["alike", 2, [1]], False), (("heavier", 2, [1]), False),
            (("unlike", 1, 2, 6, [0]), False), (("open", {"a": 1, "b": 1}, {"a": 1, "b": 2}), False),
        ]:
            self.check_shown(HALVES, pair, thing, wanted)
        self.check_shown(SOME, ((), ()), ("alike", 1, [0]), True)
        self.check_shown(EMPTY, ((), ()), ("alike", LONG, []), True)
        self.check_shown(EMPTY, ((), ()), ("alike", True, []), False)
        self.check_shown(EMPTY, ((), ()), ("alike", 0, []), False)
        twice = HALVES.with_telling(("alike", ("b",), ("a",)))
        for numbers, wanted in [([0, -1], True), ([1, 1], True), ([-1, -3], True), ([1, 0], False), ([1], False)]:
            self.check_shown(twice, pair, ("alike", 1, numbers), wanted)

    def test_unlike(self):
        for thing, wanted in [
            (("unlike", 1, 1, -1, [1]), True), (("unlike", 1, 3, -3, [3]), True),
            (("unlike", 1, LONG, -LONG, [LONG]), True), (("unlike", 1, -1, 1, [-1]), False),
            (("unlike", 1, 0, 0, [0]), False), (("unlike", 0, 1, 0, [1]), False), (("unlike", 2, 1, -1, [1]), False),
            (("unlike", -1, 1, -1, [1]), False), (("unlike", True, 1, -1, [1]), False),
            (("unlike", 1, True, -1, [1]), False), (("unlike", 1, 1, -1, [True]), False),
            (("unlike", 1, 1, 1, [1]), False), (("unlike", 1, 1, -1, [0]), False), (("unlike", 1, 1, -1, (1,)), False),
            (("unlike", 1, 1, -1, [1, 0]), False), (("unlike", 1, 1, -1), False), (("unlike", 1, 1, -1, [1], 1), False),
            (("unlike", LONG, 1, -1, [1]), False), (("unlike", None, 1, -1, [1]), False),
            (("unlike", 1, 1, "-1", [1]), False), (("unlike", 1, 1, [1], -1), False), (("alike", 1, [1]), False),
            (("unlike", 1, 1, [-1, 1]), False), (["unlike", 1, 1, -1, [1]], False),
        ]:
            self.check_shown(SOME, UNLIKE, thing, wanted)
        self.check_shown(SOME, UNLIKE[::-1], ("unlike", 1, 1, 1, [1]), True)
        one = Told(("a",), [("unlike", ("a",), ())])
        self.check_shown(one, (("a",), ()), ("unlike", 0, 1, 1, []), True)
        for thing in [("unlike", False, 1, 1, []), ("unlike", 0, 1, True, []), ("unlike", 0, True, 1, [])]:
            self.check_shown(one, (("a",), ()), thing, False)
        two = Told(("a", "b"), [("unlike", ("b",), ()), ("alike", (), ()), ("unlike", ("a",), ())])
        for index, wanted in [(2, True), (0, False), (1, False), (-1, False), (3, False)]:
            self.check_shown(two, (("a", "a"), ()), ("unlike", index, 2, 1, [LONG]), wanted)

    def test_open(self):
        for thing, wanted in [
            (("open", SAME, OTHER), True), (("open", {"d": 2, "b": 1, "c": 0, "a": 1}, OTHER), True),
            (("open", {name: -LONG * number for name, number in SAME.items()}, OTHER), True),
            (("open", OTHER, SAME), False), (("open", SAME, SAME), False), (("open", OTHER, OTHER), False),
            (("open", SAME, {"a": 2, "b": 1, "c": 0, "d": 4}), False),
            (("open", SAME, {"a": 1, "b": 0, "c": 1, "d": 0}), False),
            (("open", {"a": 1, "b": 1, "c": 1, "d": 1}, OTHER), False), (("open", SAME), False),
            (("open", {**SAME, "e": 1}, OTHER), False), (("open", SAME, OTHER, OTHER), False),
            (("open", {**SAME, "a": True}, OTHER), False), (("open", SAME, {**OTHER, "b": True}), False),
            (("open", SAME, {**OTHER, "c": False}), False), ([*("open", SAME, OTHER)], False),
            (("alike", SAME, OTHER), False), (("open", [1, 1, 0, 2], OTHER), False),
        ]:
            self.check_shown(SOME, OPEN, thing, wanted)

    def test_any_value(self):
        for told, pair in [(SOME, ALIKE), (SOME, UNLIKE), (SOME, OPEN), (HALVES, (("b",), ("a",))), (EMPTY, ((), ())),
                           (THIRDS, (("a", "b"), ("c", "c"))), (Told(("a",), []), (("a",), ()))]:
            for thing in odd_values() + [("alike",), ("unlike",), ("open",), ("alike", "unlike", "open")]:
                self.assertIs(is_plain_paper(told, pair, thing), False)
        for told, pair in [(SOME, ALIKE), (SOME, UNLIKE), (SOME, OPEN), (HALVES, (("b",), ("a",)))]:
            for thing in spoiled(plain_paper(told, pair)):
                self.assertIs(is_plain_paper(told, pair, thing), False)

    def test_papers_with_other_numbers(self):
        chance = Random(43)
        seen = []
        for told in [told for told in small_tolds() if stands_plainly(told)]:
            for pair in chance.sample(pairs(told.things, 2), 5):
                word, *parts, numbers = plain_paper(told, pair)
                for _ in range(6) if word != "open" else ():
                    # the index of an unlike paper stays as it is
                    others = parts[:-2] + [part * chance.choice([1, 1, 1, -1, 2]) for part in parts[-2:]]
                    thing = (word, *others, [number + chance.choice([0, 0, 0, 1, -2]) for number in numbers])
                    seen.append(is_plain_paper(told, pair, thing))
                    self.assertIs(seen[-1], shows(told, pair, thing))
        self.assertGreater(seen.count(True), 50)
        self.assertGreater(seen.count(False), 50)
