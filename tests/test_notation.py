"""Texts [91], and what the guarantee [11] says of them."""

import re
from random import Random

from asmuchas.book import Book
from asmuchas.notation import (
    show_book, show_entry, show_pair, show_sum, show_telling, show_told, show_worths,
)
from asmuchas.told import Told, renamed
from tests.helpers import EMPTY, LONG, SIX, Case, every_sum, great_tolds, small_tolds
from tests.test_book import led

WORDS = ("alike", "heavier", "unlike")
NAMED = ("past", "strike", "things", "undo", "why", "word")


class Texts(Case):
    def test_sums(self):
        for one, text in [((), "0"), (("a",), "a"), (("a", "a"), "a + a"), (("a", "b", "things"), "a + b + things"),
                          (("abcdefgh",) * 3, "abcdefgh + abcdefgh + abcdefgh")]:
            self.same(self.answer(show_sum, one), text)

    def test_pairs(self):
        for pair, text in [(((), ()), "0 ? 0"), ((("a", "b"), ("c",)), "a + b ? c"), ((("a",), ()), "a ? 0"),
                           (((), ("a", "a", "b")), "0 ? a + a + b"), ((("word",), ("why",)), "word ? why")]:
            self.same(self.answer(show_pair, pair), text)

    def test_tellings_and_entries(self):
        for entry, text in [
            (("alike", ("a", "b"), ("c",)), "a + b = c"), (("heavier", ("a", "b"), ("c",)), "a + b > c"),
            (("unlike", ("a", "b"), ("c",)), "a + b != c"), (("alike", (), ()), "0 = 0"),
            (("unlike", (), ("a",)), "0 != a"), (("heavier", ("b", "b", "b"), ()), "b + b + b > 0"),
            (("alike", ("strike",), ("undo",)), "strike = undo"),
        ]:
            self.same(self.answer(show_telling, entry), text)
            self.same(self.answer(show_entry, entry), text)
        for index in (0, 7, 11, -1, LONG, -LONG):
            self.same(self.answer(show_entry, ("strike", index)), f"strike {index}")

    def test_tolds(self):
        for told, text in [
            (EMPTY, "things"), (Told(("a",), []), "things a"), (Told(SIX, []), "things a b c d e f"),
            (Told((), [("alike", (), ()), ("unlike", (), ())]), "things\n0 = 0\n0 != 0"),
            (Told(("a", "b", "c"), [("heavier", ("b",), ("a",)), ("alike", ("a", "a"), ("b", "c"))]),
             "things a b c\nb > a\na + a = b + c"),
            (Told(NAMED, [("alike", ("things",), ("undo",))]),
             "things past strike things undo why word\nthings = undo"),
        ]:
            self.assertEqual(self.answer(show_told, told), text)

    def test_books(self):
        for book, text in [
            (Book(()), "things"), (Book(SIX), "things a b c d e f"),
            (led(("a", "b"), [("heavier", ("b",), ("a",)), ("strike", 0), ("alike", ("a",), ())]),
             "things a b\nb > a\nstrike 0\na = 0"),
            (led((), [("alike", (), ())] * 2 + [("strike", 1)]), "things\n0 = 0\n0 = 0\nstrike 1"),
        ]:
            self.same(self.answer(show_book, book), text)
        book = led(("a", "b"), [("heavier", ("b",), ("a",)), ("alike", ("a",), ())])
        book.undo()
        # what can be done again is not shown
        self.same(show_book(book), "things a b\nb > a")

    def test_worths(self):
        for worths, text in [
            ({}, ""), ({"a": 0}, "a 0"), ({"b": -2, "a": 3}, "a 3, b -2"),
            ({"z": LONG, "aa": -LONG}, f"aa {-LONG}, z {LONG}"),
            (dict(zip("fedcba", range(-3, 3))), "a 2, b 1, c 0, d -1, e -2, f -3"),
        ]:
            self.same(self.answer(show_worths, worths), text)

    def test_other_names(self):
        names = dict(zip(SIX, ["h", "hh", "m", "ma", "things", "undo"]))

        def other(text):
            return re.sub(r"\b[a-f]\b", lambda match: names[match[0]], text)

        for told in small_tolds(WORDS, 91)[::3] + great_tolds(WORDS, 91)[::3]:
            self.same(show_told(renamed(told, names)), other(show_told(told)))
        chance = Random(92)
        for one in chance.sample(every_sum(SIX), 20):
            self.same(show_sum(tuple(names[name] for name in one)), other(show_sum(one)))
