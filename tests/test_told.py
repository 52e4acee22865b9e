"""Told [30]."""

from asmuchas.errors import NoTelling, TooMany, Wrong
from asmuchas.told import Told, renamed
from tests.helpers import SIX, Case, odd_values

THINGS = ("a", "b", "o")
LIKE = ("alike", ("a", "a"), ("b", "o"))
MORE = ("alike", ("b", "b"), ("o", "o"))
APART = ("unlike", ("b",), ("o",))
ABOVE = ("heavier", ("a", "o"), ("b",))
BARE = ("alike", (), ())


class Made(Case):
    def test_wrong_things(self):
        for things in odd_values():
            self.assertIs(self.refuses(Wrong, Told, things, []).place, 0)
            self.assertIs(self.refuses(Wrong, Told, things, None).place, 0)
        for things in [SIX + ("g",), ("b", "a"), ("a", "a"), ["a"], "a", 1, Told((), [])]:
            self.assertIs(self.refuses(Wrong, Told, things, []).place, 0)

    def test_wrong_tellings(self):
        for telling in odd_values():
            self.assertIs(self.refuses(Wrong, Told, ("a", "b"), [telling]).place, 1)
            self.assertIs(self.refuses(Wrong, Told, ("a", "b"), (BARE, telling)).place, 1)
            if telling != []:
                self.assertIs(self.refuses(Wrong, Told, ("a", "b"), telling).place, 1)
        for tellings in [LIKE, [("alike", ("a",), ("c",))], [("alike", ("c",), ())], {}, "", None, Told((), []),
                         [list(LIKE)], [("lighter", ("a",), ("b",))], {BARE: 1}, [BARE, [BARE]]]:
            self.assertIs(self.refuses(Wrong, Told, ("a", "b"), tellings).place, 1)

    def test_a_told_copies_what_it_is_given(self):
        tellings = [LIKE, APART]
        told = Told(THINGS, tellings)
        tellings.append(MORE)
        tellings[0] = MORE
        self.same(told.tellings(), [LIKE, APART])
        tellings = [LIKE, APART]
        self.assertTrue(Told(THINGS, tellings) == Told(THINGS, tuple(tellings)))
        self.same(tellings, [LIKE, APART])

    def test_nothing_told(self):
        told = Told((), [])
        self.same(told.things, ())
        self.same(self.answer(told.tellings), [])
        self.same([len(told), list(told), told.is_ordered(), told.is_balanced()], [0, [], False, True])
        for word in ("alike", "heavier", "unlike"):
            self.same(self.answer(told.rows, word), [])
            self.same(self.answer(told.indexes, word), [])
        self.assertIs(self.refuses(NoTelling, lambda: told[0]).index, 0)
        bare = Told((), [BARE, ("unlike", (), ())])
        self.same([len(bare), bare.rows("alike"), bare.rows("unlike"), bare.is_balanced()], [2, [()], [()], True])

    def test_six_things_and_twelve_tellings(self):
        tellings = [("unlike", (one,), (other,)) for one in SIX for other in SIX if one < other][:12]
        told = Told(SIX, tellings)
        self.same([told.things, len(told), told.tellings()], [SIX, 12, tellings])
        more = Told(SIX, tellings * 4)
        self.same([len(more), more.indexes("unlike")], [48, list(range(48))])


class Asked(Case):
    def setUp(self):
        self.told = Told(THINGS, [LIKE, APART, MORE, APART])

    def test_things_is_a_property(self):
        self.assertIsInstance(Told.things, property)
        self.same(self.told.things, THINGS)

    def test_tellings_in_their_order(self):
        self.same(self.answer(self.told.tellings), [LIKE, APART, MORE, APART])
        self.same(list(self.told), [LIKE, APART, MORE, APART])
        self.same(len(self.told), 4)
        self.same([self.told[index] for index in range(4)], [LIKE, APART, MORE, APART])
        one, two = iter(self.told), iter(self.told)
        self.same([next(one), next(one), next(two)], [LIKE, APART, LIKE])

    def test_no_telling(self):
        for index in odd_values() + [-1, 4, 5, 10 ** 79, -10 ** 79, "0", (0,), LIKE, self.told]:
            self.assertIs(self.refuses(NoTelling, lambda: self.told[index]).index, index)
            self.assertIs(self.refuses(NoTelling, self.told.without, index).index, index)
        self.same(self.told.tellings(), [LIKE, APART, MORE, APART])

    def test_rows_and_indexes(self):
        self.same(self.answer(self.told.rows, "alike"), [(2, -1, -1), (0, 2, -2)])
        self.same(self.answer(self.told.rows, "unlike"), [(0, 1, -1), (0, 1, -1)])
        self.same(self.answer(self.told.rows, "heavier"), [])
        self.same(self.answer(self.told.indexes, "alike"), [0, 2])
        self.same(self.answer(self.told.indexes, "unlike"), [1, 3])
        self.same(self.answer(self.told.indexes, "heavier"), [])
        mixed = Told(THINGS, [ABOVE, LIKE])
        self.same([mixed.rows("heavier"), mixed.indexes("heavier")], [[(1, -1, 1)], [0]])

    def test_ordered_and_balanced(self):
        self.same([self.told.is_ordered(), self.told.is_balanced()], [False, True])
        self.same([Told(THINGS, [LIKE, ABOVE]).is_ordered(), Told(THINGS, [LIKE, ABOVE]).is_balanced()], [True, False])
        self.same(Told(THINGS, [("unlike", ("a",), ()), LIKE]).is_balanced(), False)
        self.same(Told(THINGS, [("heavier", ("a", "a"), ("b", "b"))]).is_balanced(), True)

    def test_equality(self):
        same = Told(THINGS, (LIKE, APART, MORE, APART))
        self.assertIs(self.told == same, True)
        self.assertIs(self.told != same, False)
        others = [
            Told(THINGS, [LIKE, MORE, APART, APART]), Told(THINGS, [LIKE, APART, MORE]), Told(THINGS, []),
            Told(("a", "b", "c", "o"), [LIKE, APART, MORE, APART]), [LIKE, APART, MORE, APART],
            (LIKE, APART, MORE, APART), (THINGS, [LIKE, APART, MORE, APART]),
        ]
        for other in others + odd_values():
            self.assertIs(self.told == other, False)
            self.assertIs(other == self.told, False)
            self.assertIs(self.told != other, True)


class Changed(Case):
    def setUp(self):
        self.told = Told(THINGS, [LIKE, APART])

    def test_with_telling(self):
        self.assertEqual(self.answer(lambda: self.told.with_telling(ABOVE).tellings()), [LIKE, APART, ABOVE])
        self.same(self.told.with_telling(LIKE).tellings(), [LIKE, APART, LIKE])
        self.same(self.told.with_telling(BARE).things, THINGS)
        self.same(self.told.tellings(), [LIKE, APART])

    def test_with_wrong_telling(self):
        for telling in odd_values() + [("alike", ("c",), ("a",)), ("alike", ("a",), ("a", "c")), [LIKE], list(LIKE),
                                       self.told, 0, ("lighter", ("a",), ("b",))]:
            self.assertIs(self.refuses(Wrong, self.told.with_telling, telling).place, 0)
        self.same(self.told.tellings(), [LIKE, APART])

    def test_more_than_twelve_tellings(self):
        told = self.told
        for count in range(30):
            told = told.with_telling(APART)
        self.same(len(told), 32)

    def test_without(self):
        twice = Told(THINGS, [LIKE, APART, LIKE])
        self.same(twice.without(0).tellings(), [APART, LIKE])
        self.same(twice.without(1).tellings(), [LIKE, LIKE])
        self.same(twice.without(2).tellings(), [LIKE, APART])
        self.same(twice.without(2).things, THINGS)
        self.same(twice.tellings(), [LIKE, APART, LIKE])

    def test_about(self):
        told = Told(THINGS, [LIKE, APART, BARE, MORE])
        self.assertTrue(told.about(("b", "o")) == Told(("b", "o"), [APART, BARE, MORE]))
        self.assertTrue(told.about(()) == Told((), [BARE]))
        self.assertTrue(told.about(("a",)) == Told(("a",), [BARE]))
        self.assertTrue(told.about(THINGS) == told)
        self.same(told.about(("b", "o")).rows("alike"), [(0, 0), (2, -2)])

    def test_both(self):
        other = Told(("b", "c"), [("alike", ("b",), ("c",)), BARE])
        both = self.told | other
        self.assertTrue(both == Told(("a", "b", "c", "o"), [LIKE, APART, ("alike", ("b",), ("c",)), BARE]))
        self.assertTrue(other | self.told == Told(both.things, [("alike", ("b",), ("c",)), BARE, LIKE, APART]))
        self.assertTrue(self.told | self.told == Told(THINGS, [LIKE, APART, LIKE, APART]))
        self.assertTrue(self.told | Told((), []) == self.told)
        self.same([self.told.tellings(), other.things], [[LIKE, APART], ("b", "c")])

    def test_both_with_too_many_things(self):
        self.same((self.told | Told(("a", "c", "d", "e"), [])).things, ("a", "b", "c", "d", "e", "o"))
        others = Told(("c", "d", "e", "f"), [])
        error = self.refuses(TooMany, lambda: self.told | others)
        self.same([error.limit, self.told.things, others.things], [6, THINGS, ("c", "d", "e", "f")])

    def test_renamed(self):
        names = {"o": "x", "a": "z", 7: "a", "zz": "x", "b": "y", None: 3}
        told = self.answer(lambda: renamed(self.told, names).tellings())
        self.same(told, [("alike", ("z", "z"), ("x", "y")), ("unlike", ("y",), ("x",))])
        self.same(renamed(self.told, names).things, ("x", "y", "z"))
        self.same(list(names), ["o", "a", 7, "zz", "b", None])
        self.assertTrue(renamed(self.told, {"a": "b", "b": "a", "o": "o"}) ==
                        Told(THINGS, [("alike", ("b", "b"), ("a", "o")), ("unlike", ("a",), ("o",))]))
        self.assertTrue(renamed(Told((), [BARE]), {}) == Told((), [BARE]))
        self.same(self.told.tellings(), [LIKE, APART])
