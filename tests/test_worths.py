"""Worths [31]."""

from asmuchas.errors import Ordered
from asmuchas.told import Told
from asmuchas.worths import (
    are_worths, are_worths_on, classes, fits, fits_on, misfits, shifted, stretched, word_in, worth, worth_on,
)
from tests.helpers import LONG, Case, odd_values

THINGS = ("a", "b", "o")
TELLINGS = [("alike", ("a", "a"), ("b", "o")), ("alike", ("b", "b"), ("o", "o")), ("unlike", ("b",), ("o",))]
WRONG = [
    {"a": 1, "b": 2}, {"a": 1, "b": 2, "o": 3, "c": 4}, {"a": 1, "b": 2, "c": 3}, {"a": 1, "b": True, "o": 0},
    {"a": 1, "b": False, "o": 0}, {"a": 1, "b": "2", "o": 0}, {"a": 1, "b": None, "o": 0}, [("a", 1), ("b", 2)],
    {"a": 1, "b": 2, 0: 3}, {"a": 1, "b": (2,), "o": 0}, ("a", "b", "o"), [1, 2, 3], {"a": 1, "b": 2, ("o",): 0},
]


class Worths(Case):
    def test_are_worths(self):
        for thing in [{"a": 1, "b": 2, "o": 0}, {"o": -LONG, "b": LONG, "a": 0}]:
            self.same(self.answer(are_worths, THINGS, thing), True)
        for thing in WRONG + odd_values():
            self.assertIs(are_worths(THINGS, thing), False)
        self.same(self.answer(are_worths, (), {}), True)
        for thing in odd_values():
            self.assertIs(are_worths((), thing), False)

    def test_are_worths_on(self):
        for size in (2, 3, 400):
            self.same(self.answer(are_worths_on, THINGS, size, {"o": 0, "a": 1, "b": size - 1}), True)
            for thing in WRONG + odd_values() + [{"a": size, "b": 0, "o": 0}, {"a": 0, "b": 0, "o": -1}]:
                self.assertIs(are_worths_on(THINGS, size, thing), False)
            self.same(self.answer(are_worths_on, (), size, {}), True)
        self.same(self.answer(are_worths_on, ("a",), 2, {"a": True}), False)
        self.same(self.answer(are_worths_on, ("a",), LONG, {"a": LONG - 1}), True)

    def test_worth(self):
        worths = {"b": -2, "a": 3, "o": LONG}
        for one, number in [((), 0), (("a",), 3), (("a", "a", "b"), 4), (("b", "b", "b"), -6), (("o", "o"), 2 * LONG)]:
            self.same(self.answer(worth, worths, one), number)
            for size in (2, 7, 400, LONG):
                self.same(self.answer(worth_on, worths, one, size), number % size)
        self.same(self.answer(worth, {}, ()), 0)
        self.same(self.answer(worth_on, {"a": -1}, ("a",), 400), 399)

    def test_word_in(self):
        worths = {"a": 1, "b": 2, "o": LONG}
        for pair, word in [
            ((("a", "a"), ("b",)), "alike"), ((("b",), ("a",)), "heavier"), ((("a",), ("b",)), "lighter"),
            (((), ()), "alike"), (((), ("a",)), "lighter"), ((("a", "o"), ("o",)), "heavier"),
        ]:
            self.same(self.answer(word_in, worths, pair), word)

    def test_classes(self):
        self.same(self.answer(classes, {"a": 1, "b": 2, "o": 0}, 1), [[("o",)], [("a",)], [("b",)]])
        self.same(self.answer(classes, {"o": 0, "b": 2, "a": 1}, 2),
                  [[("o", "o")], [("a", "o")], [("a", "a"), ("b", "o")], [("a", "b")], [("b", "b")]])
        self.same(self.answer(classes, {"a": -1, "b": 10, "c": -1}, 1), [[("a",), ("c",)], [("b",)]])
        self.same(self.answer(classes, {"b": 4, "a": 4}, 3),
                  [[("a", "a", "a"), ("a", "a", "b"), ("a", "b", "b"), ("b", "b", "b")]])
        self.same(self.answer(classes, {"a": LONG, "b": 4}, 0), [[()]])
        self.same(self.answer(classes, {}, 0), [[()]])
        self.same(self.answer(classes, {}, 2), [])

    def test_shifted_and_stretched(self):
        worths = {"b": -2, "o": LONG, "a": 0}
        self.same(self.answer(shifted, worths, 3), {"a": 3, "b": 1, "o": LONG + 3})
        self.same(self.answer(shifted, worths, -LONG), {"a": -LONG, "b": -2 - LONG, "o": 0})
        self.same(self.answer(shifted, worths, 0), {"a": 0, "b": -2, "o": LONG})
        self.same(self.answer(stretched, worths, -2), {"a": 0, "b": 4, "o": -2 * LONG})
        self.same(self.answer(stretched, worths, 0), {"a": 0, "b": 0, "o": 0})
        self.same([shifted({}, 1), stretched({}, 1)], [{}, {}])


class Fits(Case):
    def setUp(self):
        self.told = Told(THINGS, TELLINGS)
        self.ordered = Told(THINGS, [("heavier", ("a",), ("b",)), ("unlike", ("a",), ())])

    def test_misfits(self):
        self.same(self.answer(misfits, self.told, {"a": 1, "b": 2, "o": 0}), [1])
        self.same(self.answer(misfits, self.told, {"o": 0, "b": 0, "a": 0}), [2])
        self.same(self.answer(misfits, self.told, {"a": 1, "b": 0, "o": 5}), [0, 1])
        self.same(self.answer(misfits, self.ordered, {"a": 2, "b": 1, "o": 0}), [])
        self.same(self.answer(misfits, self.ordered, {"a": 0, "b": 1, "o": 0}), [0, 1])
        self.same(self.answer(misfits, self.ordered, {"a": 1, "b": 1, "o": 0}), [0])
        self.same(self.answer(misfits, Told((), []), {}), [])
        bare = Told((), [("unlike", (), ()), ("alike", (), ()), ("heavier", (), ())])
        self.same(self.answer(misfits, bare, {}), [0, 2])

    def test_fits(self):
        told = Told(THINGS, TELLINGS[::2])
        self.same(self.answer(fits, told, {"o": 0, "a": 1, "b": 2}), True)
        self.same(self.answer(fits, told, {"a": 0, "b": LONG, "o": -LONG}), True)
        self.same(self.answer(fits, told, {"a": 0, "b": 0, "o": 0}), False)
        self.same(self.answer(fits, self.told, {"a": 1, "b": 2, "o": 0}), False)
        self.same(self.answer(fits, self.ordered, {"a": 2, "b": 1, "o": 0}), True)
        self.same(self.answer(fits, self.ordered, {"a": 1, "b": 2, "o": 0}), False)
        self.same(self.answer(fits, Told((), []), {}), True)
        self.same(self.answer(fits, Told((), [("unlike", (), ())]), {}), False)
        for thing in WRONG + odd_values():
            self.assertIs(fits(Told(THINGS, []), thing), False)

    def test_fits_on(self):
        self.same(self.answer(fits_on, self.told, 4, {"a": 1, "b": 2, "o": 0}), True)
        self.same(self.answer(fits_on, self.told, 400, {"a": 100, "b": 200, "o": 0}), True)
        self.same(self.answer(fits_on, self.told, 2, {"a": 1, "b": 1, "o": 1}), False)
        self.same(self.answer(fits_on, self.told, 4, {"a": 0, "b": 0, "o": 0}), False)
        self.same(self.answer(fits_on, self.told, 4, {"a": 1, "b": 2, "o": 4}), False)
        self.same(self.answer(fits_on, self.told, 4, {"a": 1, "b": -2, "o": 0}), False)
        self.same(self.answer(fits_on, Told(("a",), [("unlike", ("a", "a"), ())]), 2, {"a": 1}), False)
        self.same(self.answer(fits_on, Told(("a",), [("alike", ("a", "a", "a"), ())]), 3, {"a": 2}), True)
        self.same(self.answer(fits_on, Told((), []), 2, {}), True)
        for thing in WRONG + odd_values():
            self.assertIs(fits_on(Told(THINGS, []), 400, thing), False)

    def test_fits_on_with_a_heavier_telling(self):
        for thing in odd_values() + [{"a": 1, "b": 0, "o": 0}, {"a": 1, "b": 2, "o": 4}]:
            self.refuses(Ordered, fits_on, self.ordered, 4, thing)
        self.same(self.ordered.tellings(), [("heavier", ("a",), ("b",)), ("unlike", ("a",), ())])
