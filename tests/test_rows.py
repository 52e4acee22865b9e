"""Rows [22]."""

from asmuchas.rows import (
    added, common, dot, is_balanced, mixture, outcome, row_of, shortened, stacked, taken, times,
)
from tests.helpers import LONG, Case


class Rows(Case):
    def test_row_of(self):
        things = ("a", "b", "c")
        self.same(self.answer(row_of, things, (("a", "a"), ("b", "c"))), (2, -1, -1))
        self.same(self.answer(row_of, things, (("b",), ("a", "b", "b"))), (-1, -1, 0))
        self.same(self.answer(row_of, things, ((), ("c", "c", "c"))), (0, 0, -3))
        self.same(self.answer(row_of, things, ((), ())), (0, 0, 0))
        self.same(self.answer(row_of, things, (("a", "b"), ("a", "b"))), (0, 0, 0))
        self.same(self.answer(row_of, (), ((), ())), ())

    def test_added_and_taken(self):
        self.same(self.answer(added, (1, -2, LONG), (4, 2, LONG)), (5, 0, 2 * LONG))
        self.same(self.answer(taken, (1, -2, LONG), (4, 2, LONG)), (-3, -4, 0))
        self.same(self.answer(added, (), ()), ())
        self.same(self.answer(taken, (), ()), ())

    def test_times(self):
        self.same(self.answer(times, (1, -2, 0), 3), (3, -6, 0))
        self.same(self.answer(times, (1, -2, 0), -1), (-1, 2, 0))
        self.same(self.answer(times, (5, LONG), 0), (0, 0))
        self.same(self.answer(times, (2, 3), LONG), (2 * LONG, 3 * LONG))
        self.same(self.answer(times, (), 7), ())

    def test_mixture(self):
        self.same(self.answer(mixture, [(1, -1), (0, 2)], [3, -1], 2), (3, -5))
        self.same(self.answer(mixture, [(1, -1), (1, -1)], [3, -3], 2), (0, 0))
        self.same(self.answer(mixture, [], [], 3), (0, 0, 0))
        self.same(self.answer(mixture, [], [], 0), ())
        self.same(self.answer(mixture, [(), ()], [4, 5], 0), ())
        self.same(self.answer(mixture, [(LONG, 1)], [LONG], 2), (LONG * LONG, LONG))

    def test_dot(self):
        self.same(self.answer(dot, (1, -1), (4, 2)), 2)
        self.same(self.answer(dot, (1, 2, 3), (-3, 0, 1)), 0)
        self.same(self.answer(dot, (), ()), 0)
        self.same(self.answer(dot, (LONG, 1), (LONG, -1)), LONG * LONG - 1)

    def test_is_balanced(self):
        for row in [(), (0, 0), (1, -1), (2, -1, -1), (LONG, 0, -LONG)]:
            self.same(self.answer(is_balanced, row), True)
        for row in [(1,), (1, 1), (2, -1, 0), (LONG, -LONG, 1)]:
            self.same(self.answer(is_balanced, row), False)

    def test_outcome(self):
        self.same(self.answer(outcome, (1, -1), [(4, 2), (0, LONG), (3, 3)]), (2, -LONG, 0))
        self.same(self.answer(outcome, (1, -1), []), ())
        self.same(self.answer(outcome, (), [(), ()]), (0, 0))

    def test_common(self):
        for row, number in [((), 0), ((0, 0), 0), ((4, -6, 0), 2), ((-5,), 5), ((LONG * 3, 0, -LONG * 5), LONG)]:
            self.same(self.answer(common, row), number)

    def test_shortened(self):
        for row, shorter in [((), ()), ((0, 0), (0, 0)), ((4, -6, 0), (2, -3, 0)), ((-5,), (-1,)), ((3, 2), (3, 2)),
                             ((LONG * 3, 0, -LONG * 5), (3, 0, -5))]:
            self.same(self.answer(shortened, row), shorter)

    def test_stacked(self):
        self.same(self.answer(stacked, [(1, 0), (0, 1), (1, 1)], 10, 2), (101, 11))
        self.same(self.answer(stacked, [(1, -1), (2, 2)], 1, 2), (3, 1))
        self.same(self.answer(stacked, [], 7, 3), (0, 0, 0))
        self.same(self.answer(stacked, [()], 7, 0), ())
