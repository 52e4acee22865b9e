"""Points and missing tellings [43], and what the guarantees [10] and [11] say of them."""

from itertools import combinations
from random import Random

from asmuchas.errors import NothingFits, Ordered
from asmuchas.points import missing, point_of, points_told, questions_to
from asmuchas.rows import row_of
from asmuchas.told import Told, renamed
from asmuchas.verdicts import plain_word
from asmuchas.words import pairs
from tests.helpers import (
    BAD, BOTH, EMPTY, LONG, ORDERED, SIX, SOME, Case, above, fit, great_tolds, plain_heads, plain_left, plain_rank,
    plainly_held, small_tolds, stands_plainly,
)

AIM = {"a": 1, "b": 2, "c": 0, "d": 3}
FIVE = SIX[:5]
HALVES = Told(("a", "b"), [("alike", ("a", "a"), ("b", "b")), ("unlike", ("a",), ("b",))])


def plain_questions(told, worths):
    """Return the questions to an aim, worked out with ranks."""
    alike, unlike, found = told.rows("alike"), told.rows("unlike"), []
    asked = pairs(told.things, 2)
    for pair in [pair for pair in asked if above(worths, pair) == 0]:
        if not plainly_held(alike, row_of(told.things, pair)):
            alike.append(row_of(told.things, pair))
            found.append(("alike", *pair))
    heads = plain_heads(alike)
    seen = [left for left in [plain_left(heads, row) for row in unlike] if any(left)]
    for pair in [pair for pair in asked if above(worths, pair) != 0]:
        left = plain_left(heads, row_of(told.things, pair))
        if all(plain_rank([left, other]) == 2 for other in seen):
            seen.append(left)
            found.append(("unlike", *pair))
    return found


def is_settled(told, worths):
    """Return whether each pair of sums of two is alike, or unlike, as in worths."""
    for pair in pairs(told.things, 2):
        if plain_word(told, pair) != ("alike" if above(worths, pair) == 0 else "unlike"):
            return False
    return True


def aims(told, seed, most=3):
    """Return some worths of up to five things that fit tellings."""
    chance = Random(seed)
    every = [{name: chance.randint(-most, most) for name in told.things} for _ in range(60)]
    return [worths for worths in every if fit(told, worths)][:4]


class Errors(Case):
    def test_heavier_tellings_are_refused_first(self):
        for told in (ORDERED, BOTH):
            self.refuses(Ordered, points_told, told)
            self.refuses(Ordered, questions_to, told, AIM)
            self.refuses(Ordered, missing, told, AIM)

    def test_nothing_fits(self):
        for told, worths in [(BAD, AIM), (Told((), [("unlike", (), ())]), {})]:
            self.refuses(NothingFits, questions_to, told, worths)
            self.refuses(NothingFits, missing, told, worths)

    def test_points_are_told_of_tellings_that_nothing_fits(self):
        self.same(self.answer(points_told, BAD), [()])
        self.same(self.answer(points_told, HALVES), [()])
        self.same(self.answer(points_told, Told((), [("unlike", (), ())])), [()])
        self.same(self.answer(points_told, HALVES.with_telling(("unlike", ("b",), ()))), [(), (0, 1)])
        for told in (BAD, BOTH, ORDERED, HALVES):
            self.same(self.answer(point_of, told, (("a",), ("a",))), ())


class Points(Case):
    def test_point_of(self):
        for pair, point in [
            ((("b",), ("d",)), (0, 1, 0, -1)), ((("a",), ("c",)), (0, 1, 0, -1)), ((("a", "b"), ("c", "d")), ()),
            ((("a", "a"), ("c", "c")), (0, 1, 0, -1)), (((), ()), ()), ((("a",), ("b",)), (0, 2, -1, -1)),
        ]:
            self.same(self.answer(point_of, SOME, pair), point)
            self.same(self.answer(point_of, SOME, pair[::-1]), point)
            self.same(self.answer(point_of, ORDERED, pair), point)
        self.same(self.answer(point_of, BAD, (("b",), ("d",))), ())
        self.same(self.answer(point_of, BOTH, (("a",), ("b",))), (0, 0, 1, -1))
        self.same(self.answer(point_of, EMPTY, ((), ())), ())
        self.same(self.answer(point_of, HALVES, (("b",), ("a",))), ())
        self.same(self.answer(point_of, HALVES, (("b",), ())), (0, 1))

    def test_a_pair_is_unlike_just_if_its_point_is_told(self):
        seen = set()
        for told in [told for told in small_tolds() + great_tolds() if stands_plainly(told)]:
            found = self.answer(points_told, told)
            self.assertEqual(found, sorted(set(found)))
            self.assertNotIn((), found)
            heads = plain_heads(told.rows("alike"))
            for pair in pairs(told.things, 1) + pairs(told.things, 2)[::7] + [(("a",), ())]:
                word, point = plain_word(told, pair), point_of(told, pair)
                self.assertEqual(point in found, word == "unlike")
                self.assertEqual(point == (), word == "alike")
                if point != ():
                    left = plain_left(heads, row_of(told.things, pair))
                    self.assertEqual(plain_rank([left, plain_left(heads, point)]), 1)
                seen.add(word)
        self.assertEqual(seen, {"alike", "unlike", "open"})

    def test_points_told(self):
        self.same(self.answer(points_told, EMPTY), [])
        self.same(self.answer(points_told, SOME), [(0, 1, 0, -1)])
        self.same(self.answer(points_told, SOME.with_telling(("unlike", ("d", "d"), ("b", "b")))), [(0, 1, 0, -1)])
        apart = Told(FIVE, [("unlike", (one,), (other,)) for one, other in combinations(reversed(FIVE), 2)])
        found = self.answer(points_told, apart)
        self.same((len(found), found[0], found[-1]), (10, (0, 0, 0, 1, -1), (1, 0, 0, 0, -1)))


class Missing(Case):
    def check_questions(self, told, worths):
        """Check the questions to an aim."""
        found = self.answer(questions_to, told, worths)
        self.same(found, plain_questions(told, worths))
        self.same(self.answer(missing, told, worths), len(found))
        self.assertTrue(fit(Told(told.things, found), worths))
        self.assertTrue(is_settled(Told(told.things, told.tellings() + found), worths))
        return found

    def test_edges(self):
        self.same(self.check_questions(SOME, AIM), [("alike", ("a", "a"), ("b", "c"))])
        self.same(self.check_questions(EMPTY, {}), [])
        self.same(self.check_questions(Told(("a",), []), {"a": LONG}), [])
        self.same(self.check_questions(Told(("a", "b"), []), {"b": 1, "a": 1}), [("alike", ("a", "a"), ("a", "b"))])
        self.same(self.check_questions(Told(("a", "b"), []), {"b": LONG, "a": -LONG}),
                  [("unlike", ("a", "a"), ("a", "b"))])
        self.same(self.check_questions(Told(("a", "b"), [("unlike", ("a",), ())]), {"b": 2, "a": 1}),
                  [("unlike", ("a", "a"), ("a", "b"))])
        self.same(self.check_questions(Told(("a", "b"), [("alike", ("a", "a"), ("b", "b"))]), {"b": 2, "a": 2}), [])
        self.same(self.check_questions(Told(("a", "b"), [("unlike", ("a", "a", "a"), ("b", "b", "b"))]),
                                       {"b": 2, "a": -2}), [])

    def test_aims_of_five_things(self):
        numbers = [(1, 2, 3, 4, 5), (0, 0, 0, 0, 0), (7, 1, 0, 7, 3), (1, 10, 100, 1000, 10000), (2, 1, 2, 1, 2)]
        for row in numbers:
            for worths in (dict(zip(FIVE, row)), {name: -LONG * part for name, part in zip(reversed(FIVE), row)}):
                self.check_questions(Told(FIVE, []), worths)
        for told in great_tolds():
            five = told.about(FIVE)
            for worths in aims(five, 5) if stands_plainly(five) else ():
                self.check_questions(five, worths)

    def test_questions_to_many_aims(self):
        seen = 0
        for told in small_tolds():
            for worths in aims(told, 43):
                self.check_questions(told, worths)
                seen += 1
        self.assertGreater(seen, 50)

    def test_questions_are_as_few_as_possible(self):
        chance = Random(44)
        for told in [Told(("a", "b", "c"), [])] + small_tolds()[1:60:4]:
            for worths in aims(told, 44, 2)[:1]:
                many = len(questions_to(told, worths))
                asked = pairs(told.things, 2)
                true = [("alike" if above(worths, pair) == 0 else "unlike", *pair) for pair in asked]
                for some in list(combinations(true, many - 1))[:300] if many else []:
                    self.assertFalse(is_settled(Told(told.things, told.tellings() + list(some)), worths))
                for _ in range(10):
                    some = chance.sample(true, many)
                    more = Told(told.things, told.tellings() + some)
                    self.assertEqual(is_settled(more, worths), missing(more, worths) == 0)

    def test_questions_in_any_order(self):
        chance = Random(45)
        for told in small_tolds()[::3] + [Told(FIVE[:4], []), SOME]:
            for worths in aims(told, 46)[:2]:
                some = questions_to(told, worths)
                chance.shuffle(some)
                left, more = len(some), told
                for telling in some:
                    self.assertEqual(plain_word(more, telling[1:]), "open")
                    more = more.with_telling(telling)
                    left -= 1
                    self.assertEqual(missing(more, worths), left)

    def test_no_telling_lowers_the_number_by_more_than_one(self):
        for told in small_tolds()[::4] + [SOME]:
            for worths in aims(told, 47)[:1]:
                many = missing(told, worths)
                for pair in pairs(told.things, 2):
                    word = "alike" if above(worths, pair) == 0 else "unlike"
                    left = missing(told.with_telling((word, *pair)), worths)
                    self.assertIn(left, (many - 1, many))
                    if plain_word(told, pair) != "open":
                        self.assertEqual(left, many)

    def test_other_names(self):
        names = dict(zip("abc", ["h", "hh", "x"]))
        for told in small_tolds()[::5]:
            for worths in aims(told, 48)[:1]:
                found = questions_to(renamed(told, names), {names[name]: number for name, number in worths.items()})
                wanted = renamed(Told(told.things, questions_to(told, worths)), names).tellings()
                self.same(found, wanted)
