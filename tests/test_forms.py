"""Forms [71], and what the guarantee [11] says of them."""

from functools import reduce
from itertools import permutations
from math import gcd
from random import Random

from asmuchas.errors import NothingFits, Ordered, Unbalanced, Unlike
from asmuchas.forms import form, has_one_form, one_form, same_form, turned_about
from asmuchas.freest import free
from asmuchas.told import Told, renamed
from asmuchas.worths import shifted, stretched
from tests.helpers import LONG, SIX, Case, all_small_worths, balanced_tolds, fit, stands_plainly

FIVE = SIX[:5]
WORDS = ("alike", "alike", "unlike")
PARTED = Told(("a", "b", "c"), [("alike", ("a", "a"), ("b", "c")), ("unlike", ("b",), ("c",))])
TILTED, UP, HELD = ("alike", ("a",), ()), ("heavier", ("a",), ("b",)), ("unlike", ("a", "b"), ("a", "b"))


def plain_form(worths):
    """Return the form of worths, worked out here."""
    least = min(worths.values(), default=0)
    shared = reduce(gcd, [number - least for number in worths.values()], 0) or 1
    return {name: (worths[name] - least) // shared for name in sorted(worths)}


def some_worths_of(seed, things, most):
    """Return several worths of things, below nought too, with their keys in any order."""
    chance = Random(seed)
    found = []
    for _ in range(30):
        names = chance.sample(things, len(things))
        found.append({name: chance.choice([1, 7]) * chance.randint(-most, most) for name in names})
    return found


class Forms(Case):
    def test_form(self):
        for worths, wanted in [
            ({}, {}), ({"a": 0}, {"a": 0}), ({"a": -7}, {"a": 0}), ({"a": 4, "b": 4}, {"a": 0, "b": 0}),
            ({"a": 7, "b": 3, "c": 11}, {"a": 1, "b": 0, "c": 2}), ({"c": 1, "b": 0, "a": 3}, {"a": 3, "b": 0, "c": 1}),
            ({"a": 0, "b": 4}, {"a": 0, "b": 1}), ({"a": 5, "b": -5}, {"a": 1, "b": 0}),
            ({"a": -3, "b": -5, "c": -9}, {"a": 3, "b": 2, "c": 0}),
            ({"a": 4, "b": 6, "c": 10}, {"a": 0, "b": 1, "c": 3}),
            ({"b": LONG, "a": -LONG}, {"a": 0, "b": 1}), ({"a": LONG, "b": LONG}, {"a": 0, "b": 0}),
            ({"a": 3 * LONG, "b": LONG, "c": 2 * LONG}, {"a": 2, "b": 0, "c": 1}),
            ({"a": LONG, "b": 1, "c": 0}, {"a": LONG, "b": 1, "c": 0}),
            (dict(zip("edcba", (10, 4, 4, 7, 1))), {"a": 0, "b": 2, "c": 1, "d": 1, "e": 3}),
        ]:
            self.same(self.answer(form, worths), wanted)

    def test_turned_about(self):
        for worths, wanted in [
            ({}, {}), ({"a": 9}, {"a": 0}), ({"a": 0, "b": 1, "c": 3}, {"a": 3, "b": 2, "c": 0}),
            ({"b": 5, "a": 5}, {"a": 0, "b": 0}), ({"c": 6, "a": 0, "b": -2}, {"a": 3, "b": 4, "c": 0}),
            ({"a": LONG, "b": 0}, {"a": 0, "b": 1}), ({"a": LONG, "b": 0, "c": 1}, {"a": 0, "b": LONG, "c": LONG - 1}),
        ]:
            self.same(self.answer(turned_about, worths), wanted)

    def test_forms_of_many_worths(self):
        for many in range(6):
            for worths in some_worths_of(71, FIVE[:many], 10 ** many) + some_worths_of(72, FIVE[:many], 2):
                found = self.answer(form, worths)
                self.same(found, plain_form(worths))
                self.same(form(found), found)
                self.same(form(shifted(stretched(worths, 12), -LONG)), found)
                about = self.answer(turned_about, worths)
                self.same(about, plain_form({name: -number for name, number in worths.items()}))
                self.same(turned_about(about), found)
                self.same(form(stretched(worths, -LONG)), about)

    def test_same_form(self):
        for one, other, wanted in [
            ({}, {}, True), ({"a": 1}, {"a": LONG}, True), ({"a": 1, "b": 2}, {"b": 9, "a": -9}, True),
            ({"a": 1, "b": 2}, {"a": 2, "b": 1}, False), ({"a": 1, "b": 1}, {"a": 0, "b": 0}, True),
            ({"a": 1, "b": 1}, {"a": 0, "b": 1}, False), ({"a": 0, "b": 1, "c": 2}, {"c": 5, "b": 3, "a": 1}, True),
            ({"a": 0, "b": 1, "c": 2}, {"a": 0, "b": 2, "c": 1}, False), ({"a": 0, "b": 0}, {"a": LONG, "b": 1}, False),
        ]:
            self.same(self.answer(same_form, one, other), wanted)
            self.same(self.answer(same_form, other, one), wanted)

    def test_unlike_things(self):
        for one, other in [({}, {"a": 0}), ({"a": 1}, {"b": 1}), ({"a": 1, "b": 2}, {"a": 1}),
                           ({"a": 0, "b": 0}, {"a": 0, "c": 0}), ({"a": 0, "b": 0, "c": 0}, {"a": 0, "c": 0})]:
            self.refuses(Unlike, same_form, one, other)
            self.refuses(Unlike, same_form, other, one)


class OneForm(Case):
    def test_errors_in_their_order(self):
        things = ("a", "b")
        for tellings, error in [
            ([TILTED], Unbalanced), ([UP], Ordered), ([HELD], NothingFits), ([TILTED, UP, HELD], Unbalanced),
            ([HELD, UP, TILTED], Unbalanced), ([HELD, UP], Ordered), ([HELD, TILTED], Unbalanced),
            ([("heavier", ("a",), ())], Unbalanced), ([("unlike", ("a", "b"), ("b",))], Unbalanced),
            ([("heavier", ("a",), ("a",))], Ordered), ([UP, ("heavier", ("b",), ("a",))], Ordered),
            ([("alike", ("a", "a"), ("b", "b")), ("unlike", ("b",), ("a",))], NothingFits),
        ]:
            for function in (has_one_form, one_form):
                self.refuses(error, function, Told(things, tellings))
        self.refuses(NothingFits, has_one_form, Told((), [("unlike", (), ())]))
        self.refuses(NothingFits, one_form, Told((), [("unlike", (), ())]))
        self.refuses(Ordered, one_form, Told((), [("heavier", (), ())]))

    def test_edges(self):
        chain = [("alike", (one,), (other,)) for one, other in zip(FIVE, FIVE[1:])]
        even = [("alike", (one, three), (two, two)) for one, two, three in zip(FIVE, FIVE[1:], FIVE[2:])]
        for things, tellings, wanted in [
            ((), [], {}), ((), [("alike", (), ())], {}), (("a",), [], {"a": 0}),
            (("a",), [("alike", (), ())], {"a": 0}),
            (("a", "b"), [], None), (("a", "b"), [("unlike", ("a",), ("b",))], {"a": 0, "b": 1}),
            (("a", "b"), [("alike", ("b", "b"), ("a", "b"))], {"a": 0, "b": 0}),
            (("a", "b"), [("alike", ("a",), ("a",))], None), (FIVE, chain, dict.fromkeys(FIVE, 0)),
            (FIVE, chain[1:], None),
            (FIVE, chain[1:] + [("unlike", ("a",), ("e",))], {"a": 0} | dict.fromkeys("bcde", 1)),
            (FIVE, even, None), (FIVE, even + [("unlike", ("a",), ("e",))], dict(zip(FIVE, range(5)))),
            (FIVE, even[1:] + [("unlike", ("a",), ("e",))], None),
            (PARTED.things, PARTED.tellings(), {"a": 1, "b": 0, "c": 2}),
            (PARTED.things, [("alike", ("a", "b"), ("c", "c")), ("unlike", ("c",), ("b",))],
             {"a": 0, "b": 2, "c": 1}),
            (("a", "b", "c"), [("alike", ("b",), ("c",)), ("unlike", ("a",), ("b",))], {"a": 0, "b": 1, "c": 1}),
        ]:
            told = Told(things, tellings)
            self.same(self.answer(has_one_form, told), wanted is not None)
            self.same(self.answer(one_form, told), wanted)

    def test_going_through_all_small_worths(self):
        seen = []
        for told in balanced_tolds(73, SIX[:3], WORDS) + balanced_tolds(74, SIX[:2], WORDS):
            if not stands_plainly(told):
                self.refuses(NothingFits, has_one_form, told)
                self.refuses(NothingFits, one_form, told)
                continue
            # of three things two free worths have no form with a worth above six
            fitting = [worths for worths in all_small_worths(told.things, range(7)) if fit(told, worths)]
            forms = sorted({tuple(plain_form(worths).values()) for worths in fitting})
            about = {tuple(plain_form({name: -part for name, part in zip(told.things, row)}).values()) for row in forms}
            is_one = len(forms) == 1 or len(forms) == 2 and about == set(forms)
            self.same(self.answer(has_one_form, told), is_one)
            self.same(self.answer(one_form, told), dict(zip(told.things, forms[0])) if is_one else None)
            seen.append((is_one, min(free(told), 3)))
        for kind in [(True, 1), (True, 2), (False, 2), (False, 3)]:
            self.assertGreater(seen.count(kind), 5, kind)

    def test_five_things(self):
        seen = []
        for told in balanced_tolds(76, FIVE, WORDS) + balanced_tolds(77, SIX[:4], WORDS):
            if stands_plainly(told):
                found = self.answer(one_form, told)
                self.same(self.answer(has_one_form, told), found is not None)
                if found is not None:
                    self.same(found, plain_form(found))
                    self.assertTrue(fit(told, found))
                    self.assertLessEqual(list(found.values()), list(turned_about(found).values()))
                seen.append(found is not None)
        self.assertGreater(seen.count(True), 3)
        self.assertGreater(seen.count(False), 20)

    def test_other_names(self):
        names = dict(zip("abc", ["h", "hh", "x"]))
        for told in balanced_tolds(78, SIX[:3], WORDS):
            if stands_plainly(told):
                found = one_form(told)
                other = found and {names[name]: number for name, number in found.items()}
                self.same(one_form(renamed(told, names)), other)
        # where the order of the things does not stay, the first of the two forms may be the other one
        for order in permutations("abc"):
            told = renamed(PARTED, dict(zip("abc", order)))
            found = dict(zip(order, (1, 0, 2)))
            self.same(one_form(told), min(plain_form(found), turned_about(found), key=lambda one: list(one.values())))
