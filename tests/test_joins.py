"""Joins [81], and what the guarantee [11] says of them."""

from random import Random

from asmuchas.errors import NothingFits, TooMany
from asmuchas.joins import news, tells_more
from asmuchas.told import Told, renamed
from tests.helpers import (
    BAD, BOTH, EMPTY, ORDERED, SIX, SOME, Case, box, every_sum, flat_word, flat_worths, plain_left, plainly_held,
    small_tolds,
)

HERE = Told(("a", "b"), [])
THERE = Told(("a", "b", "z"), [("alike", ("a",), ("z",)), ("alike", ("b",), ("z",))])
FAR = Told(("c", "d", "e", "f", "g"), [])
FAR_BAD = FAR.with_telling(("unlike", ("c",), ("c",)))
PAIRS = [(("a",), ("b",)), (("a",), ()), (("b",), ("a",)), ((), ()), (("b",), ()), (("a",), ("b",)), ((), ("b",)),
         ((), ("a",))]


def plain_both(one, other):
    """Return the things of both, and the rows of both alike tellings, worked out here."""
    things = tuple(sorted({*one.things, *other.things}))
    return things, Told(things, one.tellings() + other.tellings()).rows("alike")


def plainly_tells_more(one, other):
    """Return whether both together hold a row that one does not hold, worked out with fractions."""
    things, rows = plain_both(one, other)
    # with the other things ahead, those rows are of the things of one whose first place is behind these
    order = sorted(range(len(things)), key=lambda at: things[at] in one.things)
    ahead = len(things) - len(one.things)
    heads, found = [], []
    for row in [tuple(row[at] for at in order) for row in rows]:
        left = plain_left(heads, row)
        place = next((place for place, part in enumerate(left) if part != 0), None)
        if place is not None:
            heads.append((place, [part / left[place] for part in left]))
            heads.sort()
            found = [head[ahead:] for place, head in heads if place >= ahead]
    return not all(plainly_held(one.rows("alike"), row) for row in found)


def two_tolds(seed, words, flat=False):
    """Return pairs of Tolds of few things, with things in common and others."""
    chance = Random(seed)
    names = [("abc", "bcd"), ("ab", "abc"), ("abc", "ab"), ("ab", "cd"), ("abd", "abd"), ("ad", "bcd"), ("abcd", ""),
             ("", "ab"), ("ab", "bcd"), ("ad", "abcd")]
    found = []
    for both in names * 14:
        two = []
        for things in map(tuple, both):
            some = every_sum(things)[:1 + len(things) * (1 if flat else 2)]
            every = [(word, one, other) for word in words for one in some for other in some
                     if word == "alike" or one != other]
            two.append(Told(things, chance.choices(every, k=chance.randint(0, 4))))
        found.append(two)
    return found


class Errors(Case):
    def test_more_than_six_things_are_refused_first(self):
        for one, other in [(HERE, FAR), (FAR, HERE), (THERE, FAR), (FAR_BAD, HERE), (HERE, FAR_BAD), (BOTH, FAR_BAD),
                           (FAR_BAD, BOTH), (BAD, FAR), (Told(SIX, []), Told(("z",), []))]:
            self.assertEqual(self.refuses(TooMany, tells_more, one, other).limit, 6)
            for some in ([], [((), ())]):
                self.assertEqual(self.refuses(TooMany, news, one, other, some).limit, 6)

    def test_nothing_fits(self):
        more = Told(("a", "c"), [("unlike", ("a",), ("c",))])
        for one, other in [(BAD, HERE), (HERE, BAD), (BOTH, EMPTY), (EMPTY, BOTH), (BAD, BAD),
                           (more, Told(("a", "c"), [("alike", ("c", "c"), ("a", "a"))])),
                           (Told(("a", "b"), [("heavier", ("a",), ("b",))]), THERE),
                           (Told((), [("unlike", (), ())]), HERE), (Told(SIX, []), BAD)]:
            for some in ([], [((), ())], [((), ())] * 8):
                self.refuses(NothingFits, news, one, other, some)
                self.refuses(NothingFits, news, other, one, some)

    def test_tells_more_whether_they_stand_or_not(self):
        self.same(self.answer(tells_more, BAD, BAD), False)
        self.same(self.answer(tells_more, SOME, BAD), True)
        self.same(self.answer(tells_more, BAD, SOME), False)
        self.same(self.answer(tells_more, BOTH, HERE), False)
        never, held = Told(("a",), [("heavier", (), ())]), Told(("a",), [("alike", ("a",), ())])
        self.same([self.answer(tells_more, never, held), self.answer(tells_more, held, never)], [True, False])


class TellsMore(Case):
    def test_edges(self):
        way = Told(("a", "z"), [("alike", ("a", "a"), ("z",))])
        back = Told(("b", "z"), [("alike", ("b",), ("z",))])
        halves = Told(("a", "b"), [("alike", ("a", "a"), ("b",))])
        for one, other, wanted in [
            (HERE, THERE, True), (THERE, HERE, False), (HERE, HERE, False), (EMPTY, THERE, False),
            (THERE, EMPTY, False), (EMPTY, EMPTY, False), (HERE, way, False), (HERE, back, False),
            (HERE, way | back, True), (way, back, False),
            (way, halves, False), (halves, way | back, False), (way | back, halves, False), (way, back | halves, False),
            (Told(("z",), []), way, False), (Told(("a",), []), Told(("b",), [("alike", ("b",), ())]), False),
            (Told(("a",), []), Told(("a", "b"), [("alike", ("b",), ()), ("alike", ("a",), ("b",))]), True),
            (back, Told(("b",), [("alike", ("b",), ())]), True),
            (halves, Told(("a",), [("alike", ("a",), ("a",))]), False),
            (halves, Told(("a", "b"), [("alike", ("b", "b", "b"), ("a",))]), True), (HERE, SOME, False),
            (HERE, Told(("a", "b"), [("unlike", ("a",), ("b",)), ("heavier", ("a",), ())]), False),
            (Told(SIX, []), Told(SIX[:1], [("alike", ("a",), ())]), True), (Told(SIX, []), Told((), []), False),
        ]:
            self.same(self.answer(tells_more, one, other), wanted)

    def test_two_tolds(self):
        seen = []
        for one, other in two_tolds(81, ("alike",)) + two_tolds(82, ("alike", "alike", "unlike", "heavier")):
            wanted = plainly_tells_more(one, other)
            self.same(self.answer(tells_more, one, other), wanted)
            seen.append(wanted)
        self.assertGreater(seen.count(True), 30)
        self.assertGreater(seen.count(False), 30)

    def test_going_through_all_small_rows(self):
        seen = []
        for one, other in two_tolds(83, ("alike",), flat=True):
            things, rows = plain_both(one, other)
            # of sums of one thing, the rows that are held are mixtures of those with no part above one
            wanted = False
            for row in box(len(one.things), 1):
                wide = tuple(dict(zip(one.things, row)).get(name, 0) for name in things)
                wanted = wanted or plainly_held(rows, wide) and not plainly_held(one.rows("alike"), row)
            self.same(tells_more(one, other), wanted)
            seen.append(wanted)
        self.assertGreater(seen.count(True), 20)

    def test_what_is_told_twice_is_no_more(self):
        for told in small_tolds(("alike", "unlike", "heavier"), 84):
            self.same(tells_more(told, told), False)
            self.same(tells_more(told | THERE, told), False)


class News(Case):
    def test_edges(self):
        up = Told(("a", "b"), [("heavier", ("a",), ("b",))])
        for one, other, some, wanted in [
            (HERE, THERE, PAIRS[:2], [(PAIRS[0], "open", "alike")]), (HERE, THERE, [], []), (HERE, HERE, PAIRS, []),
            (HERE, THERE, PAIRS, [(pair, "open", "alike") for pair in (PAIRS[0], PAIRS[2], PAIRS[5])]),
            (HERE, THERE, [PAIRS[0]] * 2, [(PAIRS[0], "open", "alike")] * 2), (EMPTY, SOME, [((), ())] * 8, []),
            (HERE, up, PAIRS[:3], [(PAIRS[0], "open", "heavier"), (PAIRS[2], "open", "lighter")]),
            (Told(("a", "b"), [("unlike", ("a",), ("b",))]), up, PAIRS[:2], [(PAIRS[0], "unlike", "heavier")]),
            (HERE, Told(("a", "z"), [("unlike", ("a",), ()), ("alike", ("z",), ())]), PAIRS[:2],
             [(PAIRS[1], "open", "unlike")]),
            (up, Told(("b", "c"), [("alike", ("b",), ("c",)), ("heavier", ("c",), ())]), PAIRS[:2],
             [(PAIRS[1], "open", "heavier")]),
            (up, Told(("z",), []), PAIRS, []),
        ]:
            self.same(self.answer(news, one, other, some), wanted)

    def test_twelve_tellings_each(self):
        one = Told(SIX[:4], ORDERED.tellings() * 4)
        other = Told(("c", "d", "e", "f"), [("alike", ("e",), ("c",)), ("alike", ("f",), ("d",))] * 6)
        pair = ("a", "b"), ("c", "d")
        self.same(self.answer(news, one, other, [pair, (("c",), ("d",))]), [])
        more = other.with_telling(("alike", ("e",), ("f",)))
        self.same(self.answer(news, one, more, [pair, (("c",), ("d",))]), [((("c",), ("d",)), "open", "alike")])

    def test_going_through_small_worths(self):
        chance = Random(85)
        seen = set()
        for one, other in two_tolds(86, ("alike", "unlike", "heavier"), flat=True):
            sums = [()] + [(name,) for name in one.things]
            some = [(chance.choice(sums), chance.choice(sums)) for _ in range(chance.randint(0, 8))]
            both = Told(tuple(sorted({*one.things, *other.things})), one.tellings() + other.tellings())
            alone, together = flat_worths(one), flat_worths(both)
            if not together:
                self.refuses(NothingFits, news, one, other, some)
                seen.add(None)
                continue
            words = [(pair, flat_word(alone, pair), flat_word(together, pair)) for pair in some]
            wanted = [words for words in words if words[1] != words[2]]
            self.same(self.answer(news, one, other, some), wanted)
            seen |= {words[1:] for words in wanted}
        self.assertLessEqual({None, ("unlike", "lighter")} | {
            ("open", word) for word in ("alike", "unlike", "heavier", "lighter")}, seen)

    def test_other_names(self):
        names = dict(zip("abcd", ["h", "hh", "x", "xy"]))
        for one, other in two_tolds(87, ("alike", "unlike"))[::3]:
            self.same(tells_more(renamed(one, names), renamed(other, names)), tells_more(one, other))
