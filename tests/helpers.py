"""What several tests share: odd values, a strict comparison, and independent ways to work things out."""

import copy
import unittest
from fractions import Fraction
from itertools import product


class Odd:
    """An object that no point of the document speaks of."""

    def __deepcopy__(self, memo):
        return self


def odd_values():
    """Return values of many kinds, none of which is an integer, a name, things, a sum, a pair, a telling or worths."""
    deep = "a"
    for _ in range(39):
        deep = [deep]
    return [
        None, True, False, "", "A", "aB", "a b", "a1", "abcdefghi", "a" * 20000, b"a", b"", [], ["a"], [("a",)],
        ("A",), ("",), (1,), (True,), (None,), (("a",),), ("b", "a", "a"), ("a",) * 7, ("a",) * 20000,
        (("a",), ["b"]), [("a",), ("b",)], (("a",),), (("a",), ("b",), ("c",)), (("b", "a"), ()),
        ("alike", ("a",)), ("alike", ("a",), ("b",), ("c",)), ["alike", ("a",), ("b",)], ("lighter", ("a",), ("b",)),
        ("open", ("a",), ("b",)), (b"alike", ("a",), ("b",)), (None, ("a",), ("b",)), (["alike"], ("a",), ("b",)),
        ("alike", ["a"], ("b",)), ("alike", ("b", "a"), ("b",)), ("alike", "a", "b"), ("alike", ("a",) * 4, ("b",)),
        {"A": 1}, {1: 1}, {("a",): 1}, {"a": True}, {"a": None}, {"a": "1"}, set(), {"a"}, frozenset({"a"}),
        Odd(), len, int, Ellipsis, slice(0, 1), range(2), deep, {"a": {"b": [deep]}},
    ]


class Case(unittest.TestCase):
    """Tests that compare strictly and watch that arguments and later answers stay as they are."""

    def same(self, result, expected):
        """Check that two values are equal, with True for no 1, and dicts in the same order."""
        self.assertEqual(result, expected)
        self.assertEqual(repr(result), repr(expected))

    def answer(self, function, *arguments):
        """Return what a function returns, and check that the call changes nothing, nor does changing the answer."""
        before = copy.deepcopy(arguments)
        result = function(*arguments)
        kept = copy.deepcopy(result)
        self.assertEqual(arguments, before)
        changeable = list(changeable_parts(result))
        self.assertEqual(len({id(part) for part in changeable}), len(changeable))
        for part in changeable:
            part.clear()
        self.assertEqual(arguments, before)
        self.same(function(*arguments), kept)
        return kept

    def refuses(self, error, function, *arguments):
        """Check that a call raises an error of just this class, changing nothing, and return the error."""
        before = copy.deepcopy(arguments)
        with self.assertRaises(error) as caught:
            function(*arguments)
        self.assertIs(type(caught.exception), error)
        self.assertEqual(arguments, before)
        return caught.exception


def changeable_parts(value):
    """Go through the lists and dicts in a value, the inner ones first."""
    if isinstance(value, (list, tuple)):
        for part in value:
            yield from changeable_parts(part)
    if isinstance(value, dict):
        for part in value.values():
            yield from changeable_parts(part)
    if isinstance(value, (list, dict)):
        yield value


def box(many, most):
    """Return all rows of many integers from -most to most."""
    return list(product(range(-most, most + 1), repeat=many))


def plain_rank(rows):
    """Return the rank of rows, worked out with fractions."""
    left = [[Fraction(part) for part in row] for row in rows]
    found = 0
    for place in range(len(rows[0]) if rows else 0):
        heads = [row for row in left if row[place] != 0]
        if heads:
            head = heads[0]
            left.remove(head)
            left = [[a - b * row[place] / head[place] for a, b in zip(row, head)] for row in left]
            found += 1
    return found


def plainly_held(rows, row):
    """Return whether row is a mixture of rows with fractions."""
    return plain_rank(rows + [row]) == plain_rank(rows)
