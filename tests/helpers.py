"""What several tests share: odd values, a strict comparison, and independent ways to work things out."""

import copy
import unittest
from fractions import Fraction
from itertools import product
from random import Random
from unittest.mock import ANY

from asmuchas.told import Told
from asmuchas.words import pairs, sums

SIX = ("a", "b", "c", "d", "e", "f")
LONG = 10 ** 79 + 3

# tellings that stand, that nothing fits, with a heavier one among them, and both of these at once
SOME = Told(("a", "b", "c", "d"), [("alike", ("a", "b"), ("c", "d")), ("unlike", ("a",), ("c",))])
BAD = SOME.with_telling(("alike", ("b",), ("d",)))
ORDERED = SOME.with_telling(("heavier", ("a",), ("b",)))
BOTH = BAD.with_telling(("heavier", ("a",), ("b",)))
EMPTY = Told((), [])


class Odd:
    """An object that no point of the document speaks of."""

    def __deepcopy__(self, memo):
        return self


def odd_values():
    """Return values of many kinds, none of which is an integer, a name, things, a sum, a pair, a telling or worths."""
    deep = "a"
    for _ in range(39):
        deep = [deep]
    return [
        None, True, False, "", "A", "aB", "a b", "a1", "abcdefghi", "a" * 20000, b"a", b"", [], ["a"], [("a",)],
        ("A",), ("",), (1,), (True,), (None,), (("a",),), ("b", "a", "a"), ("a",) * 7, ("a",) * 20000,
        (("a",), ["b"]), [("a",), ("b",)], (("a",),), (("a",), ("b",), ("c",)), (("b", "a"), ()),
        ("alike", ("a",)), ("alike", ("a",), ("b",), ("c",)), ["alike", ("a",), ("b",)], ("lighter", ("a",), ("b",)),
        ("open", ("a",), ("b",)), (b"alike", ("a",), ("b",)), (None, ("a",), ("b",)), (["alike"], ("a",), ("b",)),
        ("alike", ["a"], ("b",)), ("alike", ("b", "a"), ("b",)), ("alike", "a", "b"), ("alike", ("a",) * 4, ("b",)),
        {"A": 1}, {1: 1}, {("a",): 1}, {"a": True}, {"a": None}, {"a": "1"}, set(), {"a"}, frozenset({"a"}),
        Odd(), len, int, Ellipsis, slice(0, 1), range(2), deep, {"a": {"b": [deep]}},
    ]


class Case(unittest.TestCase):
    """Tests that compare strictly and watch that arguments and later answers stay as they are."""

    def same(self, result, expected):
        """Check that two values are equal, with True for no 1, and dicts in the same order."""
        self.assertEqual(result, expected)
        self.assertEqual(repr(result), repr(expected))

    def answer(self, function, *arguments, **named):
        """Return what a function returns, and check that the call changes nothing, nor does changing the answer."""
        before = copy.deepcopy(arguments)
        result = function(*arguments, **named)
        kept = copy.deepcopy(result)
        self.assertEqual(arguments, before)
        changeable = list(changeable_parts(result))
        self.assertEqual(len({id(part) for part in changeable}), len(changeable))
        for part in changeable:
            part.clear()
        self.assertEqual(arguments, before)
        self.same(function(*arguments, **named), kept)
        return kept

    def refuses(self, error, function, *arguments, **named):
        """Check that a call raises an error of just this class, changing nothing, and return the error."""
        before = copy.deepcopy(arguments)
        with self.assertRaises(error) as caught:
            function(*arguments, **named)
        self.assertIs(type(caught.exception), error)
        self.assertEqual(arguments, before)
        return caught.exception


def changeable_parts(value):
    """Go through the lists and dicts in a value, the inner ones first."""
    if isinstance(value, (list, tuple)):
        for part in value:
            yield from changeable_parts(part)
    if isinstance(value, dict):
        for part in value.values():
            yield from changeable_parts(part)
    if isinstance(value, (list, dict)):
        yield value


def box(many, most):
    """Return all rows of many integers from -most to most."""
    return list(product(range(-most, most + 1), repeat=many))


def plain_heads(rows):
    """Return rows of fractions with the same mixtures as rows, each with its first place, which no later one has."""
    found = []
    for row in rows:
        left = plain_left(found, row)
        place = next((place for place, part in enumerate(left) if part != 0), None)
        if place is not None:
            found.append((place, [part / left[place] for part in left]))
    return found


def plain_left(heads, row):
    """Return what is left of a row when as much of each head is taken that it has 0 at their first places."""
    left = [Fraction(part) for part in row]
    for place, head in heads:
        number = left[place]
        left = [part - number * less for part, less in zip(left, head)] if number else left
    return tuple(left)


def plain_rank(rows):
    """Return the rank of rows, worked out with fractions."""
    return len(plain_heads(rows))


def plainly_held(rows, row):
    """Return whether row is a mixture of rows with fractions."""
    return not any(plain_left(plain_heads(rows), row))


def stands_plainly(told):
    """Return whether no unlike telling is held, worked out with fractions."""
    return not any(plainly_held(told.rows("alike"), row) for row in told.rows("unlike"))


def every_sum(things):
    """Return all sums of things."""
    return [one for many in range(4) for one in sums(things, many)]


def small_tolds(words=("alike", "unlike"), seed=40, things=("a", "b", "c")):
    """Return Tolds with few small tellings."""
    chance = Random(seed)
    some = [one for one in every_sum(things) if len(one) < 3]
    found = [Told(things, [])]
    for many in (1, 2, 3, 4) * 20:
        found.append(Told(things, [(chance.choice(words), chance.choice(some), chance.choice(some))
                                   for _ in range(many)]))
    return found


def great_tolds(words=("alike", "unlike"), seed=12):
    """Return Tolds of six things with twelve tellings of all sums."""
    chance = Random(seed)
    some = every_sum(SIX)
    found = []
    for many in (0, 1, 2, 3, 4, 5, 6, 12) * 4:
        told = [("alike", chance.choice(some), chance.choice(some)) for _ in range(many)]
        others = [(chance.choice(words[1:]), chance.choice(some), chance.choice(some)) for _ in range(12 - many)]
        found.append(Told(SIX, chance.sample(told + others, 12)))
    return found


def true_tolds(seed, counts, things=SIX, most=9):
    """Return Tolds that some small worths fit, with so many alike, heavier and unlike tellings as counts tell."""
    chance = Random(seed)
    some, found = every_sum(things), []
    for count in counts:
        worths = {name: chance.randint(-most, most) for name in things}
        drawn = [(chance.choice(some), chance.choice(some)) for _ in range(3000)]
        drawn = [pair if above(worths, pair) >= 0 else pair[::-1] for pair in drawn]
        kinds = {"alike": [pair for pair in drawn if above(worths, pair) == 0 and pair[0] != pair[1]]}
        kinds["heavier"] = kinds["unlike"] = [pair for pair in drawn if above(worths, pair) > 0]
        told = [(word, *pair) for word, many in zip(kinds, count) for pair in chance.sample(kinds[word], many)]
        found.append(Told(things, chance.sample(told, len(told))))
    return found


def balanced_tolds(seed, things, words=("alike", "heavier", "heavier", "unlike")):
    """Return Tolds of at least two things with few balanced tellings."""
    chance = Random(seed)
    some = [pair for many in (1, 2, 2, 3) for pair in pairs(things, many)]
    found = [Told(things, [])]
    for many in (1, 2, 3, 4, 5) * 16:
        told = []
        for _ in range(many):
            word, pair = chance.choice(words), chance.choice(some)
            told.append((word, *pair[::chance.choice([1, -1])]))
        found.append(Told(things, told))
    return found


def above(worths, pair):
    """Return how much more the first sum of a pair weighs than the second one."""
    return sum(worths[name] for name in pair[0]) - sum(worths[name] for name in pair[1])


def fit(told, worths, size=None):
    """Return whether worths, on a clock of a size if one is told, fit all tellings."""
    for word, *pair in told:
        number = above(worths, pair) if size is None else above(worths, pair) % size
        if not {"alike": number == 0, "unlike": number != 0, "heavier": number > 0}[word]:
            return False
    return True


def all_small_worths(things, numbers):
    """Return all worths of things out of some numbers, ascending."""
    return [dict(zip(things, row)) for row in product(numbers, repeat=len(things))]


def flat_tellings(things, words=("alike", "heavier", "unlike")):
    """Return all tellings of sums of at most one of some things."""
    some = [()] + [(name,) for name in things]
    return [(word, one, other) for word in words for one in some for other in some]


def flat_worths(told):
    """Return worths that fit tellings of sums of at most one thing, in which things and 0 stand in all such orders."""
    numbers = range(-len(told.things), len(told.things) + 1)
    return [worths for worths in all_small_worths(told.things, numbers) if fit(told, worths)]


def flat_word(fitting, pair):
    """Return the word of a pair of sums of at most one thing, by all of the flat worths that fit."""
    signs = {(number > 0) - (number < 0) for number in [above(worths, pair) for worths in fitting]}
    words = {(0,): "alike", (1,): "heavier", (-1,): "lighter", (-1, 1): "unlike", (-1, 0, 1): "open"}
    return words[tuple(sorted(signs))]


def with_truths(value):
    """Return copies of a value, in each of which a truth stands in the place of one 1 or 0."""
    if value in (0, 1) and isinstance(value, int):
        return [bool(value)]
    found = []
    if isinstance(value, (list, tuple)):
        for place, part in enumerate(value):
            for other in with_truths(part):
                found.append(type(value)([*value[:place], other, *value[place + 1:]]))
    if isinstance(value, dict):
        for key in value:
            found += [{**value, key: other} for other in with_truths(value[key])]
    return found


def spoiled(paper):
    """Return values that differ from a paper, a tuple of a word and further parts, in what they are made of."""
    words = ("alike", "heavier", "lighter", "unlike", "open", "parted")
    found = [list(paper), paper[:-1], paper + (1,), paper + paper[-1:], paper[1:], paper[:1], (), (paper,), paper[0]]
    found += [(word, *paper[1:]) for word in words if word != paper[0]] + with_truths(paper) + odd_values()
    for place in range(len(paper)):
        # one of these is an object that says of itself to be equal to everything
        found += [(*paper[:place], other, *paper[place + 1:]) for other in odd_values() + [ANY, [ANY], (ANY,)]]
        if isinstance(paper[place], list):
            numbers = paper[place]
            for other in (numbers + [0], [0] + numbers, numbers[:-1], tuple(numbers), numbers[:-1] + ["0"]):
                if other != numbers:
                    found.append((*paper[:place], other, *paper[place + 1:]))
    return found
