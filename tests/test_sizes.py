"""Sizes [52], [53], and what the guarantees [8], [9] and [11] say of them."""

from itertools import combinations
from math import gcd

from asmuchas.errors import Ordered, TooMany, Wrong
from asmuchas.rows import dot
from asmuchas.sizes import Sizes, sizes_of
from asmuchas.told import Told, renamed
from tests.helpers import EMPTY, LONG, SIX, Case, all_small_worths, fit, odd_values, small_tolds

FORTY = 10 ** 39 + 3
CLOCK = Told(("a", "b", "o"), [("alike", ("a", "a"), ("b", "o")), ("alike", ("b", "b"), ("o", "o"))])
APART = CLOCK.with_telling(("unlike", ("b",), ("o",)))
FOUR = Told(SIX[:4], [("unlike", (one,), (other,)) for one, other in combinations(SIX[:4], 2)])


def primes_multiplied(many):
    """Return the first so many primes, multiplied."""
    whole, number = 1, 2
    while many:
        if gcd(whole, number) == 1 and all(number % less for less in range(2, number)):
            whole, many = whole * number, many - 1
        number += 1
    return whole


class Made(Case):
    def test_wrong_bounds(self):
        for bound in odd_values() + [-1, -LONG, "0", (1,)]:
            for others in [(4, [4], []), (0, [], []), (None, None, None), (bound, bound, bound)]:
                self.assertIs(self.refuses(Wrong, Sizes, bound, *others).place, 0)

    def test_wrong_numbers(self):
        for number in odd_values() + [0, -1, -LONG, "1"]:
            for others in [([], []), ([1], []), (None, None), (number, number)]:
                self.assertIs(self.refuses(Wrong, Sizes, 0, number, *others).place, 1)

    def test_wrong_good_ones(self):
        some = [value for value in odd_values() if value != []]
        for good in some + [(1,), [0], [0, 1], [-1], [4, 1], [1, 1], [2, 2, 4], [3], [1, 2, 3, 4], [1, 8], [True],
                            [True, 2], [1, None], [1, "2"], [LONG], {1: 1}, "1", range(1), ["1"], [None, 1],
                            [1, [2]], [1] * 20000]:
            for small in ([], None, [1], [True]):
                self.assertIs(self.refuses(Wrong, Sizes, 7, 4, good, small).place, 2)

    def test_wrong_small_ones(self):
        some = [value for value in odd_values() if value != []]
        for small in some + [(2,), [0], [1], [1, 2], [3, 2], [2, 2], [2, 3, 3, 4], [8], [2, 8], [True], [False, 2],
                             [2, True], [-2], ["2"], [LONG], {2: 2}, range(2, 3), [[2]], [2, None], [2] * 20000]:
            self.assertIs(self.refuses(Wrong, Sizes, 7, 4, [1], small).place, 3)
        for bound in (0, 1):
            self.assertIs(self.refuses(Wrong, Sizes, bound, 4, [1], [2]).place, 3)

    def test_what_was_told(self):
        for bound, number, good, small in [
            (0, 1, [], []), (0, 4, [4], []), (1, 1, [1], []), (3, 1, [1], [3]), (7, 12, [1, 2, 3, 4, 6, 12], [2, 7]),
            (2, 2, [2], [2]), (FORTY, FORTY, [1, FORTY], [2, FORTY]), (LONG, LONG, [], [LONG]),
        ]:
            made = Sizes(bound, number, good, small)
            self.same([made.bound, made.number], [bound, number])
            self.same([self.answer(made.good), self.answer(made.small)], [good, small])

    def test_sizes_copy_what_they_are_given(self):
        good, small = [1, 2], [3, 5]
        made = Sizes(7, 4, good, small)
        good.append(4)
        small[0] = 2
        self.same([made.good(), made.small(), made(4), made(3), made(2), made(8)],
                  [[1, 2], [3, 5], False, True, False, False])
        self.assertTrue(Sizes(made.bound, made.number, made.good(), made.small()) == made)

    def test_many_parts(self):
        made = Sizes(20001, 1, [1], list(range(2, 20002)))
        self.same([made(2), made(20001), made(20002), made.least(), len(made.small())], [True, True, True, 2, 20000])


class Asked(Case):
    def test_sizes(self):
        made = Sizes(7, 12, [2, 12], [2, 7])
        wanted = [2, 7, 10, 12, 14, 22, 24, 26, 34, 36]
        self.same([size for size in range(2, 38) if self.answer(made, size)], wanted)
        for size in (2, 3, 7, 8, 10, 12):
            self.same(self.answer(made, size), size in wanted)
        self.same([made(12 * LONG), made(12 * LONG + 1), made(12 * LONG + 2)], [True, False, True])
        self.same([Sizes(0, 1, [1], [])(size) for size in (2, 3, LONG)], [True] * 3)
        self.same([Sizes(0, 1, [], [])(size) for size in (2, 3, LONG)], [False] * 3)
        # up to the bound the good ones mean nothing, and the bound itself stands there
        self.same([Sizes(6, 6, [6], [])(size) for size in (6, 12)], [False, True])
        self.same([Sizes(6, 6, [1], [6])(size) for size in (5, 6, 7, 12)], [False, True, True, False])

    def test_least(self):
        for bound, number, good, small, least in [
            (0, 1, [], [], None), (0, 1, [1], [], 2), (1, 1, [1], [], 2), (2, 1, [1], [], 3), (2, 1, [1], [2], 2),
            (0, 4, [4], [], 4), (0, 6, [1], [], 5), (0, 6, [1, 2], [], 2), (4, 6, [2], [], 8), (9, 6, [6], [], 12),
            (12, 6, [6], [], 18), (5, 6, [1, 6], [], 6), (5, 6, [1], [], 7), (7, 6, [], [5, 7], 5),
            (0, 30, [1], [], 7), (7, 30, [1], [], 11), (7, 30, [], [], None), (400, 1, [1], [400], 400),
            (0, 4, [1, 2, 4], [], 2), (2, 4, [1, 4], [], 3), (0, 2, [2], [], 2),
        ]:
            self.same(self.answer(Sizes(bound, number, good, small).least), least)

    def test_least_is_the_first_one(self):
        for number in (1, 2, 6, 8, 12, 30):
            divisors = [part for part in range(1, number + 1) if number % part == 0]
            for bound in range(0, 40, 3):
                for many in (1, 2):
                    for good in combinations(divisors, many):
                        made = Sizes(bound, number, list(good), [])
                        found = next(size for size in range(2, 200) if made(size))
                        self.same(made.least(), found)

    def test_least_of_great_numbers(self):
        for bound, number, good, least in [
            (FORTY, FORTY, [FORTY], 2 * FORTY), (FORTY, FORTY, [1], FORTY + 1), (FORTY, 1, [1], FORTY + 1),
            (0, FORTY, [FORTY], FORTY), (FORTY - 1, FORTY, [FORTY], FORTY), (FORTY, FORTY, [], None),
            (0, 2 * FORTY, [2], 2), (0, 2 * FORTY, [FORTY], FORTY), (FORTY, 2 * FORTY, [FORTY], 3 * FORTY),
            (FORTY, 2 ** 130, [2 ** 65], (FORTY // 2 ** 65 + 1) // 2 * 2 ** 66 + 2 ** 65),
        ]:
            made = Sizes(bound, number, good, [])
            self.same(self.answer(made.least), least)
            self.assertTrue(least is None or made(least))
        great = primes_multiplied(26)
        self.same(Sizes(0, great, [1], []).least(), 103)
        for bound in (great, great + 1, great * 3 - 5, FORTY):
            made = Sizes(bound, great, [1], [])
            found = made.least()
            self.assertEqual(found, next(size for size in range(bound + 1, bound + 2000) if made(size)))

    def test_equality(self):
        made = Sizes(7, 12, [2, 12], [2, 7])
        self.assertIs(made == Sizes(7, 12, [2, 12], [2, 7]), True)
        self.assertIs(made != Sizes(7, 12, [2, 12], [2, 7]), False)
        for other in [Sizes(8, 12, [2, 12], [2, 7]), Sizes(7, 24, [2, 12], [2, 7]), Sizes(7, 12, [2], [2, 7]),
                      Sizes(7, 12, [2, 12], [2]), (7, 12, [2, 12], [2, 7]), [7, 12, [2, 12], [2, 7]], 7, EMPTY,
                      ((7, 12), [2, 12])] + odd_values():
            self.assertIs(made == other, False)
            self.assertIs(other == made, False)
            self.assertIs(made != other, True)


class Of(Case):
    def check_sizes(self, told, most, tops):
        """Check the sizes of tellings by going through all worths on small clocks, and return them."""
        found = sizes_of(told, most=most)
        self.assertIs(type(found), Sizes)
        self.assertTrue(found == sizes_of(told, most=most))
        for size in range(2, tops[len(told.things)]):
            wanted = any(fit(told, worths, size) for worths in all_small_worths(told.things, range(size)))
            self.same(found(size), wanted)
            if wanted:
                self.assertLessEqual(found.least(), size)
        return found

    def test_examples(self):
        self.assertTrue(self.check_sizes(APART, 12, [0, 0, 0, 14]) == Sizes(0, 4, [4], []))
        self.assertTrue(self.check_sizes(CLOCK, 12, [0, 0, 0, 10]) == Sizes(0, 4, [1, 2, 4], []))
        three = FOUR.about(SIX[:3])
        self.assertTrue(self.check_sizes(three, 12, [0, 0, 0, 8]) == Sizes(3, 1, [1], [3]))
        self.assertTrue(self.check_sizes(FOUR, 12, [0, 0, 0, 0, 7]) == Sizes(6, 1, [1], [4, 5, 6]))

    def test_edges(self):
        self.assertTrue(sizes_of(EMPTY) == Sizes(0, 1, [1], []))
        self.assertTrue(sizes_of(Told((), [("alike", (), ())])) == Sizes(0, 1, [1], []))
        self.assertTrue(sizes_of(Told((), [("unlike", (), ())])) == Sizes(0, 1, [], []))
        self.same(sizes_of(Told((), [("unlike", (), ())])).least(), None)
        self.assertTrue(sizes_of(Told(SIX[:4], [])) == Sizes(0, 1, [1], []))
        same = Told(("a", "b"), [("unlike", ("a", "b"), ("a", "b")), ("unlike", ("a",), ("b",))])
        self.assertTrue(sizes_of(same) == Sizes(1, 1, [], []))
        self.assertTrue(sizes_of(Told(("a",), [("unlike", ("a", "a", "a"), ())])) == Sizes(3, 1, [1], [2]))
        self.assertTrue(sizes_of(Told(("a",), [("unlike", ("a", "a"), ())])) == Sizes(2, 1, [1], []))
        self.assertTrue(sizes_of(Told(("a",), [("alike", ("a", "a", "a"), ())])) == Sizes(0, 3, [1, 3], []))
        held = Told(("a",), [("alike", ("a", "a", "a"), ()), ("unlike", ("a",), ())])
        self.assertTrue(sizes_of(held) == Sizes(0, 3, [3], []))
        twice = Told(("a", "b"), [("alike", ("a", "a"), ("b", "b")), ("unlike", ("a",), ("b",)),
                                  ("unlike", ("a",), ())])
        self.assertTrue(self.check_sizes(twice, 12, [0, 0, 14]) == Sizes(1, 2, [2], []))

    def test_going_through_all_worths(self):
        seen = 0
        for told in small_tolds() + small_tolds(seed=52, things=("a",)) + small_tolds(seed=53, things=("a", "b")):
            try:
                self.check_sizes(told, 12, [0, 26, 15, 8])
                seen += 1
            except TooMany as error:
                self.assertEqual(error.limit, 12)
        self.assertGreater(seen, 150)

    def test_four_things(self):
        for told in small_tolds(seed=54, things=SIX[:4])[:30]:
            try:
                self.check_sizes(told, 12, [0, 0, 0, 0, 5])
            except TooMany as error:
                self.assertEqual(error.limit, 12)

    def test_bound_and_number(self):
        for told in small_tolds(["alike", "unlike", "unlike"], 55):
            made = told.rows("unlike")
            free = [worths for worths in all_small_worths(told.things, range(-6, 7))
                    if fit(Told(told.things, [one for one in told if one[0] == "alike"]), worths)]
            bound = sum(gcd(*[dot(row, tuple(worths.values())) for worths in free]) for row in made)
            if bound > 12:
                self.refuses(TooMany, sizes_of, told)
            elif told.rows("alike") == []:
                self.same([sizes_of(told).bound, sizes_of(told).number], [bound, 1])
            else:
                self.same(sizes_of(told, most=12).bound, bound)

    def test_too_many(self):
        for told, many in [(APART, 4), (FOUR, 6), (FOUR.about(SIX[:3]), 3), (Told(("a",), [("unlike", ("a",), ())]), 1),
                           (EMPTY, 1), (Told(("a",), [("unlike", ("a",) * 3, ())] * 4), 12),
                           (Told(("a", "b"), [("alike", ("a", "a", "a"), ()), ("alike", ("b", "b"), ())]), 6)]:
            for most in range(1, 13):
                if many <= most:
                    found = sizes_of(told, most=most)
                    self.assertTrue(found == sizes_of(told))
                    self.same(max(found.bound, found.number), many)
                else:
                    self.assertIs(self.refuses(TooMany, sizes_of, told, most=most).limit, most)
        thirteen = Told(("a",), [("unlike", ("a",) * 3, ())] * 4 + [("unlike", ("a",), ())])
        self.assertEqual(self.refuses(TooMany, sizes_of, thirteen).limit, 12)
        self.assertEqual(self.refuses(TooMany, sizes_of, thirteen.with_telling(("unlike", (), ()))).limit, 12)
        chain = Told(("a", "b", "c"), [("alike", ("a",) * 3, ("b",)), ("alike", ("b",) * 3, ("c",)),
                                       ("alike", ("c", "c"), ())])
        self.assertEqual(self.refuses(TooMany, sizes_of, chain, most=12).limit, 12)

    def test_heavier_tellings_are_refused_first(self):
        for told in (CLOCK, APART, FOUR, Told(("a",), [("unlike", ("a",) * 3, ())] * 5), EMPTY,
                     Told((), [("unlike", (), ())])):
            for most in (1, 12):
                self.refuses(Ordered, sizes_of, told.with_telling(("heavier", told.things[:1], ())), most=most)
            self.refuses(Ordered, sizes_of, Told(told.things, [("heavier", (), ())] + told.tellings()))

    def test_other_names(self):
        names = dict(zip("abc", ["h", "hh", "x"]))
        for told in small_tolds()[::4]:
            try:
                found = sizes_of(told)
            except TooMany:
                self.refuses(TooMany, sizes_of, renamed(told, names))
            else:
                self.assertTrue(sizes_of(renamed(told, names)) == found)
