"""Papers of all words [61] and papers against tellings [62], and what the guarantees [5], [6], [11] say of them."""

from random import Random

from asmuchas.errors import NothingFits
from asmuchas.orders import stands_all, word_of
from asmuchas.rows import mixture, row_of, times
from asmuchas.told import Told
from asmuchas.weighing import against, is_against, is_paper, paper
from tests.helpers import (
    BAD, EMPTY, LONG, ORDERED, SIX, SOME, Case, above, every_sum, fit, great_tolds, odd_values, small_tolds, spoiled,
    true_tolds, with_truths,
)
from tests.test_orders import COUNTS, NEVER, UP, WORDS

PARTED = Told(("a", "b", "c"), [("alike", ("a", "a"), ("b", "c")), ("unlike", ("b",), ("c",))])
BOTH_WAYS = Told(("a", "b"), [("unlike", ("a",), ()), ("heavier", ("a",), ("b",)), ("alike", ("b", "b"), ("b",))])
LESS, SAME, MORE = {"a": 0, "b": 1, "c": -1}, {"a": 0, "b": 0, "c": 0}, {"a": 2, "b": 1, "c": 3}


def whole(told, numbers):
    """Return the mixture of the rows of all tellings with numbers."""
    rows = [row_of(told.things, telling[1:]) for telling in told]
    return mixture(rows, numbers, len(told.things))


def pushes(told, numbers):
    """Return whether numbers are above 0 of heavier tellings, not of all but one at least, and 0 of unlike ones."""
    kinds = {word: [number for telling, number in zip(told, numbers) if telling[0] == word] for word in WORDS}
    return not any(kinds["unlike"]) and any(kinds["heavier"]) and all(number >= 0 for number in kinds["heavier"])


def parts(told, numbers):
    """Return whether numbers are 0 of all but the alike tellings and one unlike telling."""
    named = [telling[0] for telling, number in zip(told, numbers) if number != 0 and telling[0] != "alike"]
    return named == ["unlike"]


def shows(told, pair, thing):
    """Return whether a tuple of the right kinds is a paper of a pair, worked out here."""
    word = thing[0]
    if word == "open":
        return all(fit(told, worths) for worths in thing[1:]) and (
            above(thing[1], pair) < 0 == above(thing[2], pair) < above(thing[3], pair))
    many, numbers = thing[1:3]
    if times(row_of(told.things, pair), many) != whole(told, numbers):
        return False
    if word == "unlike":
        less, more = thing[3:]
        return many != 0 and parts(told, numbers) and fit(told, less) and fit(told, more) and (
            above(less, pair) < 0 < above(more, pair))
    if word == "alike":
        return many > 0 and {telling[0] for telling, number in zip(told, numbers) if number} <= {"alike"}
    return (many > 0 if word == "heavier" else many < 0) and pushes(told, numbers)


class Errors(Case):
    def test_nothing_fits(self):
        things = odd_values() + [("alike", 1, [0]), ("heavier", 1, [1, 1, 1]), ("open", LESS, SAME, MORE)]
        for told in NEVER:
            for pair in [((), ()), (told.things[:1], ()), (told.things[:1], told.things[-1:])]:
                self.refuses(NothingFits, paper, told, pair)
                for thing in things:
                    self.refuses(NothingFits, is_paper, told, pair, thing)


class Papers(Case):
    def check_paper(self, told, pair, word):
        """Check the paper of a pair, and return it."""
        found = self.answer(paper, told, pair)
        self.assertIsInstance(found, tuple)
        self.assertEqual((found[0], len(found)), (word, {"unlike": 5, "open": 4}.get(word, 3)))
        for part in found[1:]:
            if isinstance(part, dict):
                self.assertEqual(list(part), list(told.things))
            elif isinstance(part, list):
                self.assertEqual(len(part), len(told))
                self.assertTrue(all(type(number) is int for number in part))
            else:
                self.assertIs(type(part), int)
        self.assertTrue(shows(told, pair, found))
        self.same(self.answer(is_paper, told, pair, found), True)
        return found

    def test_papers(self):
        for told, pair, word in [
            (UP, (("a",), ("c",)), "heavier"), (UP, (("c",), ("a",)), "lighter"), (UP, ((), ()), "alike"),
            (UP, (("b", "c"), ("a", "a")), "alike"), (UP, (("a", "a"), ("b", "c")), "alike"),
            (UP, (("a",), ()), "open"), (UP, (("a", "b"), ("c", "c")), "heavier"), (PARTED, (("a",), ("b",)), "unlike"),
            (PARTED, (("b",), ("a",)), "unlike"), (PARTED, (("a", "a"), ("b", "c")), "alike"),
            (PARTED, (("a", "b"), ("c", "c")), "unlike"), (PARTED, (("a",), ("b", "b")), "open"),
            (EMPTY, ((), ()), "alike"), (Told(SIX, []), (("a",), ("f", "f")), "open"),
            (SOME, (("b",), ("d",)), "unlike"),
            (ORDERED, (("b",), ("d",)), "unlike"), (ORDERED, (("a", "a"), ("c", "d")), "heavier"),
            (BOTH_WAYS, (("b",), ()), "alike"), (BOTH_WAYS, (("a",), ()), "heavier"),
            (BOTH_WAYS, (("b", "b", "b"), ("a",)), "lighter"), (BOTH_WAYS, (("a", "b", "b"), ("b",)), "heavier"),
        ]:
            self.check_paper(told, pair, word)

    def test_papers_of_many_tellings(self):
        chance = Random(61)
        seen = []
        tolds = small_tolds(WORDS, 61) + true_tolds(61, COUNTS * 2) + true_tolds(60, COUNTS, most=1) + great_tolds()
        for told in [told for told in tolds if stands_all(told)]:
            some = every_sum(told.things)
            for _ in range(8):
                pair = chance.choice(some), chance.choice(some)
                seen.append(word_of(told, pair))
                self.check_paper(told, pair, seen[-1])
        for word in ("alike", "heavier", "lighter", "unlike", "open"):
            self.assertGreater(seen.count(word), 20, word)


class Shown(Case):
    def check_shown(self, told, pair, things):
        """Check for each of some values whether it is a paper of a pair."""
        for thing, wanted in things:
            self.same(self.answer(is_paper, told, pair, thing), wanted)

    def test_heavier_and_lighter(self):
        pair = ("a",), ("c",)
        self.check_shown(UP, pair, [
            (("heavier", 1, [1, 1]), True), (("heavier", 3, [3, 3]), True), (("heavier", LONG, [LONG, LONG]), True),
            (("lighter", 1, [1, 1]), False), (("heavier", -1, [-1, -1]), False), (("lighter", -1, [-1, -1]), False),
            (("heavier", True, [1, 1]), False), (("heavier", 1, [True, 1]), False), (("heavier", 1, [1, True]), False),
            (("heavier", 1, (1, 1)), False), (("heavier", 1, [1]), False), (("heavier", 1, [1, 1, 0]), False),
            (("heavier", 1, [1, 0]), False), (("heavier", 0, [0, 0]), False), (("heavier", 1), False),
            (("heavier", 1, [1, 1], SAME), False), (["heavier", 1, [1, 1]], False), (("alike", 1, [1, 1]), False),
            (("unlike", 1, [1, 1]), False), (("unlike", 1, [1, 1], LESS, MORE), False), (("open", LESS, SAME), False),
            (("heavier", [1, 1], 1), False), (("heavier", "1", [1, 1]), False), (("heavier", 1, [1, None]), False),
        ])
        self.check_shown(UP, pair[::-1], [
            (("lighter", -1, [1, 1]), True), (("lighter", -2, [2, 2]), True), (("lighter", 1, [-1, -1]), False),
            (("heavier", -1, [1, 1]), False), (("heavier", 1, [-1, -1]), False), (("lighter", 0, [0, 0]), False),
            (("lighter", -1, [1, 0]), False), (("lighter", -1, [1, 1], LESS), False), (("lighter", -1), False),
            (("lighter", -1, [1, True]), False), (("lighter", 1, [1, 1]), False),
        ])
        up = Told(("a",), [("heavier", ("a",), ()), ("heavier", ("a", "a"), ()), ("alike", (), ()),
                           ("unlike", ("a",), ())])
        self.check_shown(up, (("a", "a", "a"), ()), [
            (("heavier", 1, [1, 1, LONG, 0]), True), (("heavier", 1, [3, 0, 0, 0]), True),
            (("heavier", 1, [5, -1, 0, 0]), False), (("heavier", 1, [0, 0, 0, 3]), False),
            (("heavier", 1, [2, 0, 0, 1]), False), (("heavier", 2, [0, 3, -1, 0]), True),
            (("heavier", 1, [-1, 2, 0, 0]), False), (("heavier", 0, [2, -1, 0, 0]), False),
        ])
        self.check_shown(up, ((), ()), [(("alike", 1, [0, 0, 7, 0]), True), (("heavier", 1, [0, 0, 1, 0]), False),
                                        (("lighter", -1, [0, 0, 1, 0]), False), (("alike", 1, [2, -1, 0, 0]), False)])
        one = Told(("a",), [("heavier", ("a",), ())])
        self.check_shown(one, (("a",), ()), [(("heavier", 1, [1]), True), (("heavier", True, [1]), False),
                                             (("heavier", 1, [True]), False), (("heavier", True, [True]), False)])

    def test_alike(self):
        self.check_shown(UP, (("b", "c"), ("a", "a")), [
            (("alike", 1, [-1, 0]), True), (("alike", LONG, [-LONG, 0]), True), (("alike", -1, [1, 0]), False),
            (("alike", 0, [0, 0]), False), (("alike", True, [-1, 0]), False), (("alike", 1, [-1, False]), False),
            (("alike", 1, [-1]), False), (("alike", 1, [1, 0]), False), (("alike", 1, [-1, 0], SAME), False),
            (("alike", 1), False), (("heavier", 1, [-1, 0]), False), (("unlike", 1, [-1, 0], LESS, MORE), False),
        ])
        held = Told(("a",), [("alike", ("a",), ()), ("alike", ("a", "a"), ())])
        self.check_shown(held, (("a",), ()), [
            (("alike", 1, [1, 0]), True), (("alike", 2, [0, 1]), True), (("alike", 1, [-1, 1]), True),
            (("alike", 1, [0, 1]), False),
        ])
        self.check_shown(EMPTY, ((), ()), [(("alike", 5, []), True), (("alike", 0, []), False),
                                           (("alike", True, []), False), (("open", {}, {}, {}), False)])
        mixed = Told(("a",), [("alike", ("a",), ()), ("unlike", (), ("a",)), ("unlike", (), ())])
        self.same(stands_all(mixed.without(2)), False)

    def test_unlike(self):
        pair = ("a",), ("b",)
        self.check_shown(PARTED, pair, [
            (("unlike", -2, [-1, 1], LESS, MORE), True), (("unlike", 2, [1, -1], LESS, MORE), True),
            (("unlike", 2 * LONG, [LONG, -LONG], LESS, MORE), True), (("unlike", 2, [1, -1], MORE, LESS), False),
            (("unlike", 2, [1, -1], LESS, SAME), False), (("unlike", 2, [1, -1], SAME, MORE), False),
            (("unlike", 2, [1, -1], LESS, {**MORE, "a": 3}), False), (("unlike", 2, [1, -1], LESS), False),
            (("unlike", 2, [1, -1], LESS, MORE, MORE), False), (("unlike", 2, [1, -1], LESS, {**MORE, "d": 1}), False),
            (("unlike", 1, [1, -1], LESS, MORE), False), (("unlike", 2, (1, -1), LESS, MORE), False),
            (("unlike", 2, [True, -1], LESS, MORE), False), (("unlike", 2, [1, -1, 0], LESS, MORE), False),
            (("unlike", 2, [1, -1], {**LESS, "b": True}, MORE), False), (("unlike", 2, [1, -1]), False),
            (("unlike", 2, [1, -1], LESS, {**MORE, "b": True}), False), (("unlike", 0, [0, 0], LESS, MORE), False),
            (["unlike", 2, [1, -1], LESS, MORE], False), (("open", LESS, SAME, MORE), False),
            (("unlike", 2, [1, -1], None, MORE), False), (("unlike", 2, [1, -1], LESS, None), False),
            (("alike", 2, [1, -1]), False), (("heavier", 2, [1, -1]), False),
        ])
        apart = Told(("a", "b"), [("unlike", ("a",), ("b",)), ("unlike", ("a", "a"), ("b", "b")),
                                  ("unlike", ("b",), ("a",)), ("heavier", ("a",), ())])
        less, more = {"a": 1, "b": 2}, {"a": 3, "b": 2}
        self.check_shown(apart, pair, [
            (("unlike", 1, [1, 0, 0, 0], less, more), True), (("unlike", 2, [0, 1, 0, 0], less, more), True),
            (("unlike", 1, [0, 0, -1, 0], less, more), True), (("unlike", 3, [1, 1, 0, 0], less, more), False),
            (("unlike", 0, [1, 0, 1, 0], less, more), False), (("unlike", -1, [-1, 0, 0, 0], less, more), True),
            (("unlike", 0, [0, 0, 0, 0], less, more), False), (("unlike", 1, [-1, 1, 0, 0], less, more), False),
        ])
        self.check_shown(apart, (("a", "a"), ("b",)), [
            (("unlike", 1, [1, 0, 0, 1], {"a": 1, "b": 3}, more), False),
            (("open", {"a": 1, "b": 3}, {"a": 1, "b": 2}, more), True)])

    def test_open(self):
        pair = ("a",), ("b", "b")
        low, same, high = {"a": 2, "b": 3, "c": 1}, {"a": 2, "b": 1, "c": 3}, {"a": 5, "b": 2, "c": 8}
        self.check_shown(PARTED, pair, [
            (("open", low, same, high), True), (("open", {"c": 1, "b": 3, "a": 2}, same, high), True),
            (("open", high, same, low), False), (("open", low, high, same), False), (("open", same, low, high), False),
            (("open", low, same), False), (("open", low, same, high, high), False), (("open", low, low, high), False),
            (("open", low, same, same), False), (("open", same, same, high), False), (["open", low, same, high], False),
            (("open", SAME, same, high), False), (("open", low, SAME, high), False), (("open", low, same, SAME), False),
            (("open", low, {**same, "b": True}, high), False), (("open", {**low, "c": True}, same, high), False),
            (("open", {**low, "d": 1}, same, high), False), (("open", low, same, {"a": 5, "b": 2}), False),
            (("open", low, same, {**high, "c": 8 * LONG}), False), (("unlike", low, same, high), False),
            (("open", low, same, {"a": 5 * LONG, "b": 2 * LONG, "c": 8 * LONG}), True), (("open", low), False),
            (("open", None, same, high), False), (("open", low, None, high), False), (("open", low, same, 3), False),
        ])

    def test_any_value(self):
        some = [(UP, (("a",), ("c",))), (UP, (("c",), ("a",))), (UP, (("a",), ())), (UP, (("a", "a"), ("b", "c"))),
                (PARTED, (("a",), ("b",)))]
        for told, pair in some + [(EMPTY, ((), ()))]:
            for thing in odd_values() + [("alike",), ("unlike",), ("open",), ("heavier",), ("lighter",)]:
                self.assertIs(is_paper(told, pair, thing), False)
        for told, pair in some:
            for thing in spoiled(paper(told, pair)):
                self.assertIs(is_paper(told, pair, thing), False)

    def test_papers_with_other_numbers(self):
        chance = Random(62)
        seen = []
        for told in [told for told in small_tolds(WORDS, 62) if stands_all(told)]:
            some = every_sum(told.things)
            for _ in range(5):
                pair = chance.choice(some), chance.choice(some)
                found = paper(told, pair)
                if found[0] != "open":
                    for _ in range(5):
                        number = chance.choice([1, 1, 2, -1])
                        numbers = [part * number + chance.choice([0] * 8 + [1, -2]) for part in found[2]]
                        thing = (found[0], found[1] * number, numbers, *found[3:])
                        seen.append(is_paper(told, pair, thing))
                        self.assertIs(seen[-1], shows(told, pair, thing))
        self.assertGreater(seen.count(True), 100)
        self.assertGreater(seen.count(False), 100)


class Against(Case):
    def test_tellings_that_stand(self):
        for told in [UP, PARTED, SOME, ORDERED, EMPTY, Told(SIX, []), BOTH_WAYS] + true_tolds(63, COUNTS):
            self.same(self.answer(against, told), None)
            for thing in odd_values() + [[0] * len(told), [1] * len(told)]:
                self.assertIs(is_against(told, thing), False)

    def test_tellings_that_do_not_stand(self):
        seen = []
        tolds = small_tolds(WORDS, 64) + great_tolds() + great_tolds(("alike", "unlike", "heavier"), 64)
        for told in NEVER + [told for told in tolds if not stands_all(told)]:
            numbers = self.answer(against, told)
            self.assertIsInstance(numbers, list)
            self.assertEqual(len(numbers), len(told))
            self.assertTrue(all(type(number) is int for number in numbers))
            self.assertFalse(any(whole(told, numbers)))
            seen.append(pushes(told, numbers))
            self.assertNotEqual(seen[-1], parts(told, numbers))
            self.same(self.answer(is_against, told, numbers), True)
            self.same(is_against(told, [number * LONG for number in numbers]), True)
            for thing in odd_values() + with_truths(numbers) + [
                    tuple(numbers), numbers + [0], numbers[:-1], [0] * len(numbers), None, [numbers], (numbers,)]:
                self.assertIs(is_against(told, thing), False)
        self.assertGreater(seen.count(True), 20)
        self.assertGreater(seen.count(False), 20)

    def test_is_against(self):
        bad = UP.with_telling(("heavier", ("c",), ("a",)))
        for told, things in [
            (bad, [([1, 1, 1], True), ([2, 2, 2], True), ([-1, -1, -1], False), ([0, 0, 0], False), ([1, 1, 0], False),
                   ([1, True, 1], False), ((1, 1, 1), False), ([1, 1, 1, 0], False), ([1, 1], False)]),
            (BAD, [([1, 1, -1], False), ([1, -1, -1], True), ([-1, 1, 1], True), ([0, 0, 0], False)]),
            (Told((), [("unlike", (), ()), ("heavier", (), ()), ("alike", (), ()), ("unlike", (), ()),
                       ("heavier", (), ())]),
             [([1, 0, 0, 0, 0], True), ([-5, 0, 3, 0, 0], True), ([0, 0, 7, 2, 0], True), ([1, 0, 0, 1, 0], False),
              ([0, 1, 0, 0, 0], True), ([0, 2, -3, 0, 1], True), ([0, 2, 0, 0, -1], False), ([0, -1, 0, 0, 0], False),
              ([1, 1, 0, 0, 0], False), ([0, 0, 1, 0, 0], False), ([0, 0, 0, 0, 0], False), ([0, 1, 0, 1, 0], False)]),
            (Told(("a",), [("heavier", ("a",), ()), ("heavier", (), ("a",)), ("unlike", ("a",), ()),
                           ("unlike", ("a", "a"), ())]),
             [([1, 1, 0, 0], True), ([2, 1, 0, 0], False), ([0, 0, 2, -1], False), ([1, 0, -1, 0], False),
              ([0, 1, 1, 0], False), ([-1, -1, 0, 0], False)]),
        ]:
            for thing, wanted in things:
                self.same(self.answer(is_against, told, thing), wanted)

    def test_going_through_small_numbers(self):
        for told in small_tolds(WORDS, 65)[1:]:
            if len(told) < 4:
                rows = [[]]
                for _ in told:
                    rows = [[*row, number] for row in rows for number in range(-3, 4)]
                found = [row for row in rows if is_against(told, row)]
                self.assertEqual(found, [row for row in rows if not any(whole(told, row)) and
                                         (pushes(told, row) or parts(told, row))])
                self.assertEqual(found != [], not stands_all(told))
