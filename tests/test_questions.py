"""Questions [82], and what the guarantee [11] says of them."""

from random import Random

from asmuchas.errors import NothingFits
from asmuchas.orders import word_of
from asmuchas.questions import best_question, settled
from asmuchas.told import Told, renamed
from tests.helpers import (
    BAD, BOTH, EMPTY, ORDERED, SIX, SOME, Case, every_sum, flat_tellings, flat_word, flat_worths, true_tolds,
)

HERE = Told(("a", "b"), [])
UP = Told(("a", "b", "c"), [("alike", ("a", "a"), ("b", "c")), ("heavier", ("b",), ("a",))])
ONE, TWO = (("a",), ("b",)), (("a", "a"), ("b", "b"))
LONE = ("a",), ()


def plain_answers(pair):
    """Return the tellings with which a pair can be answered, by their words."""
    one, other = pair
    return {"alike": ("alike", one, other), "heavier": ("heavier", one, other), "lighter": ("heavier", other, one)}


def plain_settled(told, pair, some):
    """Return what answers settle, by going through the worths that fit; all sums have at most one thing."""
    before = flat_worths(told)
    found = {}
    for word, telling in plain_answers(pair).items():
        fitting = flat_worths(told.with_telling(telling))
        if fitting:
            found[word] = sum(flat_word(before, own) == "open" != flat_word(fitting, own) for own in some)
    return found


def plain_best(told, some):
    """Return the best question by what is settled, worked out here."""
    fitting = flat_worths(told)
    asked = [pair for pair in some if flat_word(fitting, pair) == "open"]
    return max([(pair, min(plain_settled(told, pair, some).values())) for pair in asked], key=lambda one: one[1],
               default=None)


def flat_ones(seed, many):
    """Return Tolds of up to three things that stand, with up to eight pairs, all of sums of at most one thing."""
    chance = Random(seed)
    found = []
    while len(found) < many:
        things = SIX[:chance.randint(0, 3)]
        told = Told(things, chance.choices(flat_tellings(things), k=chance.randint(0, 2)))
        some = [()] + [(name,) for name in things]
        pairs = [(chance.choice(some), chance.choice(some)) for _ in range(chance.randint(0, 8))]
        if flat_worths(told):
            found.append((told, pairs))
    return found


class Settled(Case):
    def test_nothing_fits(self):
        for told in (BAD, BOTH, UP.with_telling(("heavier", ("c",), ("a",))), Told((), [("heavier", (), ())])):
            for some in ([], [((), ())], [((), ())] * 8):
                self.refuses(NothingFits, settled, told, ((), ()), some)
                self.refuses(NothingFits, best_question, told, some)

    def test_edges(self):
        for told, pair, some, wanted in [
            (HERE, ONE, [ONE, TWO], {"alike": 2, "heavier": 2, "lighter": 2}),
            (HERE, ONE, [], {"alike": 0, "heavier": 0, "lighter": 0}),
            (HERE, ONE, [ONE] * 8, {"alike": 8, "heavier": 8, "lighter": 8}),
            (HERE, ((), ()), [ONE, TWO], {"alike": 0}),
            (UP, (("a",), ("c",)), [ONE, TWO], {"heavier": 0}), (UP, (("c",), ("a",)), [LONE], {"lighter": 0}),
            (UP, (("b", "c"), ("a", "a")), [LONE] * 3, {"alike": 0}), (EMPTY, ((), ()), [((), ())], {"alike": 0}),
            (UP, LONE, [LONE, (("b",), ()), (("c",), ())], {"alike": 3, "heavier": 2, "lighter": 2}),
            (SOME, (("b",), ("d",)), [(("a",), ("b",))], {"heavier": 0, "lighter": 0}),
            (Told(SIX, []), (("a",), ("f",)), [(("f", "f"), ("a", "a")), (("a",), ("e",)), (("a", "e"), ("e", "f"))],
             {"alike": 2, "heavier": 2, "lighter": 2}),
            (HERE, LONE, [LONE, (("b",), ()), ONE, (("a", "b"), ())], {"alike": 1, "heavier": 1, "lighter": 1}),
            (Told(("a", "b"), [("heavier", ("b",), ())]), LONE, [ONE, (("a", "b"), ()), LONE],
             {"alike": 3, "heavier": 2, "lighter": 2}),
            # what was unlike before is not settled by an answer, and what is unlike behind it is
            (Told(("a", "b"), [("unlike", ("a",), ("b",))]), ONE, [ONE, TWO], {"heavier": 0, "lighter": 0}),
            (Told(("a", "b"), [("unlike", ("a",), ("b",))]), (("b",), ()), [LONE],
             {"alike": 1, "heavier": 0, "lighter": 0}),
        ]:
            self.same(self.answer(settled, told, pair, some), wanted)

    def test_going_through_small_worths(self):
        chance = Random(82)
        seen = set()
        for told, some in flat_ones(83, 80):
            for pair in some[:1] + [(chance.choice(every_sum(told.things)[:1 + len(told.things)]), ())]:
                wanted = plain_settled(told, pair, some)
                self.same(self.answer(settled, told, pair, some), wanted)
                seen.add(tuple(wanted))
        self.assertEqual(seen, {("alike",), ("heavier",), ("lighter",), ("heavier", "lighter"),
                                ("alike", "heavier", "lighter")})

    def test_six_things_and_twelve_tellings(self):
        chance = Random(84)
        for told in true_tolds(85, [(2, 4, 6), (1, 7, 4), (3, 5, 4), (0, 6, 6)]):
            some = [(chance.choice(every_sum(SIX)), chance.choice(every_sum(SIX))) for _ in range(8)]
            pair = some[0]
            found = self.answer(settled, told, pair, some)
            word = word_of(told, pair)
            words = {"open": ["alike", "heavier", "lighter"], "unlike": ["heavier", "lighter"]}
            self.same(list(found), words.get(word, [word]))
            asked = [own for own in some if word_of(told, own) == "open"]
            for word, number in found.items():
                further = told.with_telling(plain_answers(pair)[word])
                self.same(number, len([own for own in asked if word_of(further, own) != "open"]))


class BestQuestion(Case):
    def test_edges(self):
        for told, some, wanted in [
            (HERE, [ONE, TWO], (ONE, 2)), (HERE, [TWO, ONE], (TWO, 2)), (HERE, [], None), (HERE, [((), ())] * 8, None),
            (HERE, [ONE], (ONE, 1)), (HERE, [ONE] * 8, (ONE, 8)), (UP, [ONE, TWO], None), (UP, [ONE, LONE], (LONE, 1)),
            (EMPTY, [((), ())], None), (EMPTY, [], None), (HERE, [LONE, ONE, TWO], (ONE, 2)),
            (HERE, [LONE, ONE, TWO, LONE], (LONE, 2)), (HERE, [LONE, (("b",), ())], (LONE, 1)),
            (SOME, [(("b",), ("d",)), (("a",), ("b",)), (("b",), ("c",))], ((("a",), ("b",)), 1)),
        ]:
            self.same(self.answer(best_question, told, some), wanted)

    def test_going_through_small_worths(self):
        seen = set()
        for told, some in flat_ones(86, 60):
            wanted = plain_best(told, some)
            self.same(self.answer(best_question, told, some), wanted)
            seen.add(wanted and wanted[1])
        self.assertLessEqual({None, 1, 2, 3}, seen)

    def test_other_names(self):
        names = {"a": "g", "b": "gh", "c": "z"}
        for told, some in flat_ones(87, 20) + [(UP, [LONE, (("b",), ()), (("c",), ("a", "b"))])]:
            others = [tuple(tuple(names[name] for name in one) for one in pair) for pair in some]
            found, other = best_question(told, some), best_question(renamed(told, names), others)
            self.same(other, found and (others[some.index(found[0])], found[1]))
