"""Clashes and repairs [80], and what the guarantees [6] and [11] say of them."""

from itertools import combinations
from random import Random

from asmuchas.blame import (
    are_apart_sets, clashes, fewest_wrong, is_clash, is_repair, maybe_wrong, repairs, surely_wrong,
)
from asmuchas.told import Told, renamed
from tests.helpers import (
    BAD, BOTH, EMPTY, LONG, ORDERED, SIX, SOME, Case, fit, flat_tellings, flat_worths, great_tolds, odd_values,
    small_tolds, true_tolds, with_truths,
)

WORDS = ("alike", "unlike", "heavier")
ROUND = Told(("a", "b", "c"), [("alike", ("a", "a"), ("b", "c")), ("heavier", ("b",), ("a",)),
                               ("heavier", ("c",), ("a",))])
TWICE = Told(("a", "b"), [("alike", ("a",), ("b",)), ("unlike", ("b",), ("a",)), ("alike", ("a",), ("b",))])
ALONE = Told(("a", "b"), [("heavier", ("a",), ("a",)), ("alike", ("a",), ("b",)), ("unlike", (), ())])
# these cannot stand: 0 and 1, 2 and 3, 4 alone, 5 to 7
EIGHT = Told(SIX, [
    ("heavier", ("a",), ("b",)), ("heavier", ("b",), ("a",)), ("unlike", ("c",), ("d",)),
    ("alike", ("c", "c"), ("d", "d")), ("unlike", ("e",), ("e",)), ("heavier", ("e",), ("f",)), ("alike", ("f",), ()),
    ("heavier", (), ("e", "e", "e")),
])
A_ROUND = [("heavier", ("a",), ("b",)), ("heavier", ("b",), ("c",)), ("heavier", ("c",), ("a",)),
           ("alike", ("a",), ("b",)), ("unlike", ("c",), ("c",))]


def every_set(many):
    """Return all sets of numbers below many, those with fewer ahead."""
    return [one for size in range(many + 1) for one in combinations(range(many), size)]


def least_ones(sets):
    """Return those of some sets within which there is no other one."""
    return [one for one in sets if not any(set(less) < set(one) for less in sets)]


def meeting(sets, many):
    """Return the least sets of numbers below many that meet all of some sets."""
    return least_ones([one for one in every_set(many) if all(set(one) & set(other) for other in sets)])


def flat_tolds(seed, things, most=7):
    """Return Tolds of sums of at most one thing, of which small worths show all that is to be shown."""
    chance = Random(seed)
    every = flat_tellings(things)
    return [Told(things, chance.choices(every, k=many)) for many in list(range(1, most + 1)) * 6]


def standing_sets(told):
    """Return which sets of tellings small worths fit, worked out by going through these."""
    found = {tuple(index for index, telling in enumerate(told) if fit([telling], worths))
             for worths in flat_worths(Told(told.things, []))}
    return [one for one in every_set(len(told)) if any(set(one) <= set(other) for other in found)]


class Blame(Case):
    def check_blame(self, told, clashing, mending):
        """Check all that is told of the clashes and the repairs of a Told."""
        many = len(told)
        self.same(self.answer(clashes, told), clashing)
        self.same(self.answer(repairs, told), mending)
        self.same(self.answer(surely_wrong, told), [at for at in range(many) if all(at in one for one in mending)])
        self.same(self.answer(maybe_wrong, told), [at for at in range(many) if any(at in one for one in mending)])
        self.same(self.answer(fewest_wrong, told), mending[0])
        for one in every_set(many):
            self.assertIs(is_clash(told, one), one in clashing)
            self.assertIs(is_repair(told, one), one in mending)

    def test_tellings_that_stand(self):
        for told in [EMPTY, SOME, ORDERED, Told(SIX, []), ROUND.without(0), TWICE.without(1), EIGHT.about(("a", "c"))]:
            self.check_blame(told, [], [()])
        for told in true_tolds(80, [(2, 3, 3), (8, 0, 0), (0, 4, 4), (0, 8, 0)], most=3):
            self.check_blame(told, [], [()])

    def test_edges(self):
        for told, clashing, mending in [
            (ROUND, [(0, 1, 2)], [(0,), (1,), (2,)]), (TWICE, [(0, 1), (1, 2)], [(1,), (0, 2)]),
            (ALONE, [(0,), (2,)], [(0, 2)]), (Told((), [("unlike", (), ())]), [(0,)], [(0,)]),
            (Told((), [("alike", (), ()), ("heavier", (), ())]), [(1,)], [(1,)]),
            (Told(("a",), [("heavier", ("a",), ("a",))] * 8), [(at,) for at in range(8)], [tuple(range(8))]),
            (BAD, [(0, 1, 2)], [(0,), (1,), (2,)]), (BOTH, [(0, 1, 2)], [(0,), (1,), (2,)]),
            (Told(("a", "b"), [("heavier", ("a",), ("b",)), ("heavier", ("b",), ("a",))] * 2),
             [(0, 1), (0, 3), (1, 2), (2, 3)], [(0, 2), (1, 3)]),
            (EIGHT, [(4,), (0, 1), (2, 3), (5, 6, 7)],
             [(one, two, 4, three) for one in (0, 1) for two in (2, 3) for three in (5, 6, 7)]),
            (Told(("a", "b"), [("heavier", ("a",), ("b",)), ("alike", ("b",), ("a",)), ("unlike", ("a",), ("b",))]),
             [(0, 1), (1, 2)], [(1,), (0, 2)]),
            (Told(("a", "b", "c"), A_ROUND),
             [(4,), (0, 3), (0, 1, 2), (1, 2, 3)], [(0, 1, 4), (0, 2, 4), (0, 3, 4), (1, 3, 4), (2, 3, 4)]),
        ]:
            self.check_blame(told, clashing, mending)
        self.same([surely_wrong(EIGHT), maybe_wrong(EIGHT), fewest_wrong(EIGHT)], [[4], list(range(8)), (0, 2, 4, 5)])
        self.same([surely_wrong(TWICE), maybe_wrong(TWICE), fewest_wrong(TWICE)], [[], [0, 1, 2], (1,)])

    def test_going_through_small_worths_and_all_sets(self):
        several = 0
        for told in flat_tolds(81, SIX[:3]) + flat_tolds(82, SIX[:2]) + flat_tolds(83, SIX[:1], 3):
            standing = standing_sets(told)
            every = every_set(len(told))
            clashing = least_ones([one for one in every if one not in standing])
            others = {one: tuple(at for at in range(len(told)) if at not in one) for one in every}
            mending = least_ones([one for one in every if others[one] in standing])
            self.check_blame(told, clashing, mending)
            several += len(clashing) > 1
        self.assertGreater(several, 30)

    def test_clashes_meet_repairs_and_the_other_way_about(self):
        sizes = set()
        for told in [Told(SIX, told.tellings()[:8]) for told in great_tolds(("alike", "unlike", "heavier"), 84)] + (
                small_tolds(WORDS, 85) + [EIGHT, TWICE, ALONE]):
            clashing, mending = clashes(told), repairs(told)
            self.same(meeting(clashing, len(told)), mending)
            self.same(meeting(mending, len(told)), clashing)
            sizes |= {len(one) for one in clashing}
        self.assertLessEqual({1, 2, 3}, sizes)

    def test_any_value(self):
        for told in (EMPTY, SOME, ROUND, TWICE, ALONE, EIGHT):
            things = [(-1,), (len(told),), (LONG,), (-LONG,), (0, len(told)), (0, 0), (1, 0), (1, 1, 2), (2, 0), 0, 1,
                      [0, 1], (True,), (False,), (0, True), (0, True, 2), (False, 1), (0, None), (0, "1"), (0, (1,)),
                      ((0, 1),), {0: 1}, "01", [(0, 1)], (0,) * 20000, tuple(range(20000))]
            for one in clashes(told) + repairs(told):
                things += with_truths(one) + [list(one), [one], (one,), dict.fromkeys(one), one + one[-1:]]
                things += [one[::-1]] if len(one) > 1 else []
            for thing in odd_values() + things:
                # these are sets of tellings, which are no odd values here
                if repr(thing) not in ("()", "(1,)"):
                    self.assertIs(self.answer(is_clash, told, thing), False)
                    self.assertIs(self.answer(is_repair, told, thing), False)
        self.same([is_clash(SOME, ()), is_repair(SOME, ()), is_clash(ROUND, ()), is_repair(ROUND, ())],
                  [False, True, False, False])

    def test_other_names(self):
        names = dict(zip(SIX, ["h", "hh", "m", "ma", "y", "z"]))
        for told in small_tolds(WORDS, 86)[::2] + [EIGHT]:
            other = renamed(told, names)
            self.same([clashes(other), repairs(other)], [clashes(told), repairs(told)])


class ApartSets(Case):
    def check_sets(self, told, things):
        """Check for each of some values whether it is a list of sets that are apart."""
        for thing, wanted in things:
            self.same(self.answer(are_apart_sets, told, thing), wanted)

    def test_apart_sets(self):
        self.check_sets(EIGHT, [
            ([], True), ([(4,)], True), ([(0, 1), (4,)], True), ([(4,), (0, 1)], True),
            ([(5, 6, 7), (2, 3), (0, 1), (4,)], True), ([(0, 1, 2, 3)], True), ([(0, 1, 2), (3, 4)], True),
            ([tuple(range(8))], True), ([(0, 1), (1, 4)], False),
            ([(4,), (4,)], False), ([(0, 2)], False), ([(4,), (5, 6)], False), ([()], False),
            ([(4,), ()], False), (((4,),), False), ((), False), ([[4]], False), ([4], False), ((4,), False),
            ([(1, 0)], False), ([(4, 4)], False),
            ([(8,)], False), ([(4, 8)], False), ([(-4,)], False), ([(-1, 4)], False), ([(4, LONG)], False),
            ([(4,), None], False), ([(4,), 4], False), ([("4",)], False), ([(4, "5")], False), ({(4,): 1}, False),
            ([(4,), (0, 1), (2, 3), (5, 6, 7), ()], False), ([(4,), [0, 1]], False), ([{4: 1}], False),
            ([(0, 1)] * 10000, False), ([()] * 19999, False),
        ])
        self.check_sets(TWICE, [([(0, 1)], True), ([(1, 2)], True), ([(0, 1), (1, 2)], False), ([(0, True)], False),
                                ([(0, 1, 2)], True), ([(False, 1)], False), ([(0, 2)], False), ([], True)])
        self.check_sets(EMPTY, [([], True), ([()], False), ((), False), ([(0,)], False), (None, False)])
        self.check_sets(SOME, [([], True), ([(0, 1)], False), ([(0,), (1,)], False)])

    def test_any_value(self):
        for told in (EMPTY, SOME, ROUND, EIGHT):
            for thing in odd_values():
                if thing != []:
                    self.assertIs(are_apart_sets(told, thing), False)
                    self.assertIs(are_apart_sets(told, [thing]), False)
                    self.assertIs(are_apart_sets(EIGHT, [(4,), thing]), False)

    def test_going_through_all_lists_of_two(self):
        for told in flat_tolds(87, SIX[:2], 4):
            standing = standing_sets(told)
            every = every_set(len(told))
            for one in every:
                self.assertIs(are_apart_sets(told, [one]), one not in standing)
                for two in every:
                    wanted = one not in standing and two not in standing and not set(one) & set(two)
                    self.assertIs(are_apart_sets(told, [one, two]), wanted)
                    if wanted:
                        self.assertGreaterEqual(len(fewest_wrong(told)), 2)
