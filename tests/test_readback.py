"""Readback [72], and what the guarantee [11] says of it."""

from itertools import combinations
from random import Random

from asmuchas.errors import TooMany
from asmuchas.readback import alikes_of, freedom, has_even_steps, sum_count, worths_with
from asmuchas.rows import row_of
from asmuchas.told import Told
from asmuchas.words import sums
from asmuchas.worths import classes, shifted, stretched
from tests.helpers import LONG, SIX, Case, all_small_worths, fit, plain_rank, plainly_held

FIVE = SIX[:5]
EVEN = {"a": 1, "b": 0, "c": 2}


def plain_classes(worths, many):
    """Return the classes of the sums of so many things, by rising worths, worked out here."""
    found = {}
    for one in sums(tuple(sorted(worths)), many):
        found.setdefault(sum(worths[name] for name in one), []).append(one)
    return [found[key] for key in sorted(found)]


def some_worths_of(seed, things, most):
    """Return several worths of things, below nought too, with their keys in any order."""
    chance = Random(seed)
    found = [{}]
    for _ in range(25):
        names = chance.sample(things, chance.randint(1, len(things)))
        found.append({name: chance.randint(-most, most) for name in names})
    return found


def kept(some_classes):
    """Return what a list of classes is but for the order of them and in them."""
    return frozenset(frozenset(part) for part in some_classes)


def shuffled(chance, some_classes):
    """Return classes in any order, with their sums in any order."""
    return [chance.sample(part, len(part)) for part in chance.sample(some_classes, len(some_classes))]


def plainest_ones(things, many, most):
    """Return a dict from each classes of sums that small worths have to the plainest worths that have them."""
    every = sorted(all_small_worths(things, range(most + 1)), key=lambda worths: max(worths.values(), default=0))
    found = {}
    for worths in every:
        found.setdefault(kept(plain_classes(worths, many)), worths)
    return found


def are_plainly_possible(things, some_classes):
    """Return whether no pair of sums of different classes is held by those of one class, worked out with fractions."""
    alike = [row_of(things, pair) for part in some_classes for pair in zip(part, part[1:])]
    return not any(plainly_held(alike, row_of(things, (one[0], other[0])))
                   for one, other in combinations(some_classes, 2))


class Alikes(Case):
    def test_alikes_of(self):
        for worths, many, wanted in [
            ({}, 1, []), ({}, 3, []), ({"a": 5}, 3, []), ({"a": 5, "b": 6}, 2, []),
            ({"b": 0, "a": 0}, 1, [("alike", ("a",), ("b",))]),
            ({"a": 0, "b": 0}, 2, [("alike", ("a", "a"), ("a", "b")), ("alike", ("a", "b"), ("b", "b"))]),
            (EVEN, 1, []), (EVEN, 2, [("alike", ("a", "a"), ("b", "c"))]),
            ({"c": -2, "a": 4, "b": -2}, 1, [("alike", ("b",), ("c",))]),
            ({"c": LONG, "b": -LONG, "a": 0}, 3, [
                ("alike", ("a", "a", "b"), ("b", "b", "c")), ("alike", ("a", "a", "a"), ("a", "b", "c")),
                ("alike", ("a", "a", "c"), ("b", "c", "c"))]),
            ({"a": 1, "b": 1, "c": 0, "d": 0}, 1, [("alike", ("c",), ("d",)), ("alike", ("a",), ("b",))]),
        ]:
            self.same(self.answer(alikes_of, worths, many), wanted)

    def test_alikes_of_many_worths(self):
        for worths in some_worths_of(72, FIVE, 2) + some_worths_of(73, FIVE, 8) + some_worths_of(74, SIX[:3], LONG):
            for many in (1, 2, 3):
                wanted = [("alike", *pair) for part in plain_classes(worths, many) for pair in zip(part, part[1:])]
                self.same(self.answer(alikes_of, worths, many), wanted)
                self.same(alikes_of(shifted(worths, LONG), many), wanted)
                self.assertTrue(fit(Told(tuple(sorted(worths)), wanted), worths))

    def test_freedom(self):
        for worths, many, wanted in [
            ({}, 1, 0), ({}, 2, 0), ({"a": 0}, 3, 1), ({"a": LONG, "b": 0}, 3, 2), ({"a": 2, "b": 2}, 1, 1),
            (EVEN, 1, 3), (EVEN, 2, 2), (EVEN, 3, 2), (dict.fromkeys(FIVE, 0), 3, 1), (dict(zip(FIVE, range(5))), 1, 5),
            (dict(zip(FIVE, range(5))), 2, 2), (dict(zip(FIVE, (0, 1, 10, 100, 1000))), 3, 5),
            (dict(zip("edcba", (0, 1, 3, 9, 27))), 2, 5), (dict(zip("edcba", (0, 1, 3, 9, 27))), 3, 2),
            (dict(zip(FIVE, (0, 1, 3, 7, 15))), 3, 2), ({"a": 0, "b": 1, "c": 3}, 2, 3),
            ({"a": 0, "b": 1, "c": 3}, 3, 2),
        ]:
            self.same(self.answer(freedom, worths, many), wanted)

    def test_freedom_with_more_than_twelve_tellings(self):
        for worths in (dict.fromkeys(FIVE, -LONG), dict(zip(FIVE, (0, 0, 1, 1, 2))), dict(zip(FIVE, (0, 0, 0, 5, 5)))):
            self.assertGreater(len(alikes_of(worths, 3)), 12)
            self.same(self.answer(freedom, worths, 3), len(set(worths.values())) if worths["d"] == 5 else
                      min(2, len(set(worths.values()))))

    def test_freedom_is_what_the_rank_lacks(self):
        for worths in some_worths_of(75, FIVE, 3) + some_worths_of(76, FIVE, 20):
            things = tuple(sorted(worths))
            for many in (1, 2, 3):
                rows = [row_of(things, telling[1:]) for telling in alikes_of(worths, many)]
                self.same(self.answer(freedom, worths, many), len(things) - plain_rank(rows))


class Counts(Case):
    def test_sum_count(self):
        for worths, many, wanted in [
            ({}, 1, 0), ({}, 3, 0), ({"a": -LONG}, 1, 1), ({"a": 4}, 3, 1), ({"a": 4, "b": 4}, 2, 1),
            ({"b": 0, "a": LONG}, 2, 3), ({"a": 4, "b": 0}, 3, 4), (EVEN, 1, 3), (EVEN, 2, 5), (EVEN, 3, 7),
            ({"a": 0, "b": 1, "c": 3}, 2, 6), (dict(zip(FIVE, (0, 1, 10, 100, 1000))), 3, 35),
        ]:
            self.same(self.answer(sum_count, worths, many), wanted)
        for worths in some_worths_of(77, FIVE, 4):
            for many in (1, 2, 3):
                self.same(self.answer(sum_count, worths, many), len(plain_classes(worths, many)))

    def test_has_even_steps(self):
        for worths, wanted in [
            ({}, True), ({"a": 5}, True), ({"a": 5, "b": 5}, True), ({"a": 5, "b": -LONG}, True), (EVEN, True),
            ({"a": 5, "b": 7, "c": 5}, True), ({"a": 0, "b": 1, "c": 3}, False), ({"c": 9, "a": 1, "b": 5}, True),
            ({"c": 9, "a": 1, "b": 4}, False), (dict(zip(FIVE, (4, -2, 1, -2, 7))), True),
            (dict(zip(FIVE, (4, -2, 1, -3, 7))), False), (dict(zip(FIVE, (0, 1, 2, 3, 5))), False),
            ({"a": LONG, "b": 0, "c": 2 * LONG, "d": LONG}, True), ({"a": LONG, "b": 0, "c": 2 * LONG + 1}, False),
            ({"a": 0, "b": 2, "c": 3}, False), ({"a": 0, "b": 1, "c": 3, "d": 4}, False),
        ]:
            self.same(self.answer(has_even_steps, worths), wanted)

    def test_sums_of_two_are_fewest_with_even_steps(self):
        for many, most in [(1, 9), (2, 9), (3, 7), (4, 5), (5, 3)]:
            for worths in all_small_worths(FIVE[:many], range(most)):
                least = 2 * len(set(worths.values())) - 1
                count = sum_count(worths, 2)
                self.assertGreaterEqual(count, least)
                self.assertIs(has_even_steps(worths), count == least)


class WorthsWith(Case):
    def test_edges(self):
        for things, some_classes, wanted in [
            ((), [], {}), (("a",), [[("a",)]], {"a": 0}), (("a",), [[("a", "a", "a")]], {"a": 0}),
            (("a", "b"), [[("a",), ("b",)]], {"a": 0, "b": 0}), (("a", "b"), [[("b",)], [("a",)]], {"a": 0, "b": 1}),
            (("a", "b"), [[("a", "a")], [("b", "b")], [("a", "b")]], {"a": 0, "b": 1}),
            (("a", "b"), [[("a", "a"), ("b", "b")], [("a", "b")]], None),
            (("a", "b"), [[("a", "a"), ("a", "b")], [("b", "b")]], None),
            (("a", "b"), [[("b", "b"), ("a", "b"), ("a", "a")]], {"a": 0, "b": 0}),
            (FIVE, [[(name,)] for name in reversed(FIVE)], dict(zip(FIVE, range(5)))),
            (FIVE, [[("e",), ("a",)], [("c",), ("b",), ("d",)]], {"a": 0, "b": 1, "c": 1, "d": 1, "e": 0}),
        ]:
            self.same(self.answer(worths_with, things, some_classes), wanted)

    def test_going_through_all_small_worths(self):
        chance = Random(78)
        for many_things, most in [(0, 2), (1, 3), (2, 5), (3, 6), (4, 4), (5, 2)]:
            things = FIVE[:many_things]
            for many in (1, 2, 3):
                found = plainest_ones(things, many, most)
                keys = sorted(found, key=lambda key: sorted(map(sorted, key)))
                for key in chance.sample(keys, min(len(keys), 25)):
                    some_classes = shuffled(chance, sorted(map(sorted, key)))
                    self.same(self.answer(worths_with, things, some_classes, most=most), found[key])
                    self.same(worths_with(things, some_classes), found[key])
                    greatest = max(found[key].values(), default=0)
                    if greatest > 0:
                        limit = chance.randrange(greatest)
                        error = self.refuses(TooMany, worths_with, things, some_classes, most=limit)
                        self.assertIs(error.limit, limit)
                    self.same(worths_with(things, some_classes, most=greatest), found[key])

    def test_classes_joined_and_split(self):
        chance = Random(79)
        seen = []
        known = {(many_things, many): plainest_ones(FIVE[:many_things], many, 5)
                 for many_things in (2, 3, 4) for many in (1, 2, 3)}
        for (many_things, many), found in known.items():
            things = FIVE[:many_things]
            for worths in chance.sample(list(found.values()), min(len(found), 12)):
                some_classes = shuffled(chance, plain_classes(worths, many))
                if chance.randrange(2) and len(some_classes) > 1:
                    some_classes = [some_classes[0] + some_classes[1], *some_classes[2:]]
                else:
                    wide = max(some_classes, key=len)
                    place = chance.randint(1, max(1, len(wide) - 1))
                    some_classes.remove(wide)
                    some_classes += [part for part in (wide[:place], wide[place:]) if part]
                if not are_plainly_possible(things, some_classes):
                    for limit in (0, 9):
                        self.same(self.answer(worths_with, things, some_classes, most=limit), None)
                    seen.append("none")
                elif kept(some_classes) in found:
                    self.same(self.answer(worths_with, things, some_classes), found[kept(some_classes)])
                    seen.append("some")
                else:
                    self.assertEqual(self.refuses(TooMany, worths_with, things, some_classes, most=5).limit, 5)
                    seen.append("many")
        self.assertGreater(seen.count("none"), 15)
        self.assertGreater(seen.count("some"), 15)

    def test_all_sums_apart(self):
        apart = dict(zip(FIVE, (0, 1, 1000, 10 ** 6, 10 ** 9)))
        self.same(worths_with(FIVE, classes(apart, 1)), dict(zip(FIVE, range(5))))
        for many in (2, 3):
            self.assertEqual(self.refuses(TooMany, worths_with, FIVE, classes(apart, many)).limit, 9)
        four = {name: apart[name] for name in FIVE[:4]}
        self.same(worths_with(FIVE[:4], classes(four, 2)), {"a": 0, "b": 1, "c": 4, "d": 6})
        self.assertEqual(self.refuses(TooMany, worths_with, FIVE[:4], classes(four, 2), most=5).limit, 5)

    def test_some_worths_have_them_but_none_that_small(self):
        steep = dict(zip(FIVE[:4], (0, 1, 3, 9)))
        # turned about, the classes are the same ones in another order
        self.same(worths_with(FIVE[:4], classes(stretched(steep, -7), 3)), steep)
        far = dict(zip(FIVE, (0, 1, 3, 9, 27)))
        for limit in range(10):
            self.assertIs(self.refuses(TooMany, worths_with, FIVE, classes(far, 3), most=limit).limit, limit)

    def test_worths_that_were_read_are_found_again(self):
        for worths in some_worths_of(80, FIVE, 4) + some_worths_of(81, SIX[:3], LONG):
            things = tuple(sorted(worths))
            for many in (1, 2, 3):
                wanted = kept(plain_classes(worths, many))
                try:
                    found = worths_with(things, classes(worths, many))
                except TooMany:
                    continue
                self.assertEqual(kept(plain_classes(found, many)), wanted)
                self.same(freedom(found, many), freedom(worths, many))

    def test_other_names(self):
        names = dict(zip("abc", ["h", "hh", "x"]))
        for worths in some_worths_of(82, SIX[:3], 3)[1:]:
            other = {names[name]: number for name, number in worths.items()}
            for many in (1, 2, 3):
                found = worths_with(tuple(sorted(worths)), classes(worths, many))
                self.same(worths_with(tuple(sorted(other)), classes(other, many)),
                          {names[name]: number for name, number in found.items()})
                self.same(alikes_of(other, many), [
                    ("alike", tuple(names[name] for name in one), tuple(names[name] for name in two))
                    for _, one, two in alikes_of(worths, many)])
