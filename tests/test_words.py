"""Words [21]."""

from itertools import combinations_with_replacement
from unittest.mock import ANY

from asmuchas.words import (
    are_integers, are_things, in_order, is_integer, is_name, is_pair, is_sum, is_telling, pairs, sum_of, sums,
    word_ahead,
)
from tests.helpers import SIX, Case, odd_values


class Kinds(Case):
    def check(self, function, good, bad):
        """Check that a function tells True of the good values and False of the bad ones."""
        for thing in good:
            self.same(self.answer(function, thing), True)
        for thing in bad:
            self.assertIs(function(thing), False, repr(thing)[:80])

    def test_odd_values_are_nothing(self):
        for function in (is_integer, is_name, are_things, is_sum, is_pair, is_telling):
            self.check(function, [], odd_values())

    def test_is_integer(self):
        self.check(is_integer, [0, 1, -1, 10 ** 79, -10 ** 79], [True, False, "1", (1,), [1], None])

    def test_is_name(self):
        self.check(is_name, ["a", "z", "az", "much", "abcdefgh"],
                   ["", "abcdefghi", "A", "aZ", "a ", " ", "a_", "a0", "`", "{", "a\n", 1, ("a",), ["a"], b"a"])

    def test_are_things(self):
        self.check(are_things, [(), ("a",), ("a", "b"), ("aa", "b"), ("a", "aa", "b"), SIX],
                   [SIX + ("g",), ("b", "a"), ("a", "a"), ["a", "b"], "ab", ("a", "B"), ("a", 1), ("a", "abcdefghi")])

    def test_is_sum(self):
        self.check(is_sum, [(), ("a",), ("a", "a"), ("a", "a", "a"), ("a", "b", "b"), ("ab", "b")],
                   [("a",) * 4, ("b", "a"), ["a"], "a", ("a", 1), ("a", ""), ("a", True), ("b", "b", "a")])

    def test_is_pair(self):
        self.check(is_pair, [((), ()), (("a",), ("a",)), (("a", "b"), ("c",)), (("b",), ("a", "a", "a"))],
                   [(), ((),), ((), (), ()), [("a",), ("b",)], ("a", "b"), (("b", "a"), ()), ((), ("b", "a"))])

    def test_is_telling(self):
        good = [(word, ("a",), ("a", "b")) for word in ("alike", "heavier", "unlike")]
        self.check(is_telling, good + [("alike", (), ())],
                   [("lighter", ("a",), ()), ("open", ("a",), ()), ("alike", ("a",)), ("Alike", ("a",), ("b",)),
                    ("alike", (("a",), ("b",))), ("alike", ("a", "b"), ("b", "a")), ["alike", (), ()], ("", (), ()),
                    ("alike", (), (), ()), (1, (), ()), ((), (), ()), ("alike", ("a",) * 4, ()), (), ("alike",),
                    (ANY, (), ())])

    def test_are_integers(self):
        for thing, many, wanted in [
            ([], 0, True), ([1, -10 ** 79, 0], 3, True), ([1], 2, False), ([1, 2], 1, False), ([True], 1, False),
            ((1,), 1, False), ([1, None], 2, False), ({1: 1}, 1, False), ("1", 1, False), ([ANY], 1, False),
        ]:
            self.same(self.answer(are_integers, thing, many), wanted)
        for thing in odd_values():
            self.assertIs(are_integers(thing, 1), False)

    def test_word_ahead(self):
        for thing, word in [(("alike", 1), "alike"), (("b",), "b"), ((), ""), ((1, "a"), ""), (["a"], ""), ("a", ""),
                            ((b"a",), ""), ((ANY,), ""), (None, ""), ((("a",),), "")]:
            self.same(self.answer(word_ahead, thing), word)


class Sums(Case):
    def test_sum_of(self):
        self.same(self.answer(sum_of, []), ())
        self.same(self.answer(sum_of, ["b"]), ("b",))
        self.same(self.answer(sum_of, ["b", "a", "b"]), ("a", "b", "b"))
        self.same(self.answer(sum_of, ["c", "b", "aa"]), ("aa", "b", "c"))

    def test_sums(self):
        self.same(self.answer(sums, ("a", "b"), 0), [()])
        self.same(self.answer(sums, (), 0), [()])
        self.same(self.answer(sums, ("a", "b"), 1), [("a",), ("b",)])
        self.same(self.answer(sums, ("a", "b"), 2), [("a", "a"), ("a", "b"), ("b", "b")])
        for many in (1, 2, 3):
            self.same(self.answer(sums, (), many), [])
            self.same(self.answer(sums, SIX, many), list(combinations_with_replacement(SIX, many)))
        self.assertEqual([len(sums(SIX, many)) for many in range(4)], [1, 6, 21, 56])

    def test_in_order(self):
        self.same(self.answer(in_order, []), [])
        some = [("b",), ("a", "b"), (), ("a",), ("a", "a", "a"), ("a", "a"), ("b",), ("aa",)]
        self.same(self.answer(in_order, some),
                  [(), ("a",), ("aa",), ("b",), ("b",), ("a", "a"), ("a", "b"), ("a", "a", "a")])

    def test_pairs(self):
        self.same(self.answer(pairs, ("a", "b"), 0), [])
        self.same(self.answer(pairs, (), 2), [])
        self.same(self.answer(pairs, ("a",), 3), [])
        self.same(self.answer(pairs, ("a", "b", "c"), 1), [(("a",), ("b",)), (("a",), ("c",)), (("b",), ("c",))])
        self.same(self.answer(pairs, ("a", "b"), 2),
                  [(("a", "a"), ("a", "b")), (("a", "a"), ("b", "b")), (("a", "b"), ("b", "b"))])
        found = pairs(SIX, 2)
        self.assertEqual(found, sorted(found))
        self.assertTrue(all(is_pair(pair) and pair[0] < pair[1] for pair in found))
        self.assertEqual(len(set(found)), 210)
