"""Rows [22]."""

from asmuchas.rows import added, dot, is_balanced, mixture, row_of, taken, times
from tests.helpers import Case

LONG = 10 ** 79 + 7


class Rows(Case):
    def test_row_of(self):
        things = ("a", "b", "c")
        self.same(self.answer(row_of, things, (("a", "a"), ("b", "c"))), (2, -1, -1))
        self.same(self.answer(row_of, things, (("b",), ("a", "b", "b"))), (-1, -1, 0))
        self.same(self.answer(row_of, things, ((), ("c", "c", "c"))), (0, 0, -3))
        self.same(self.answer(row_of, things, ((), ())), (0, 0, 0))
        self.same(self.answer(row_of, things, (("a", "b"), ("a", "b"))), (0, 0, 0))
        self.same(self.answer(row_of, (), ((), ())), ())

    def test_added_and_taken(self):
        self.same(self.answer(added, (1, -2, LONG), (4, 2, LONG)), (5, 0, 2 * LONG))
        self.same(self.answer(taken, (1, -2, LONG), (4, 2, LONG)), (-3, -4, 0))
        self.same(self.answer(added, (), ()), ())
        self.same(self.answer(taken, (), ()), ())

    def test_times(self):
        self.same(self.answer(times, (1, -2, 0), 3), (3, -6, 0))
        self.same(self.answer(times, (1, -2, 0), -1), (-1, 2, 0))
        self.same(self.answer(times, (5, LONG), 0), (0, 0))
        self.same(self.answer(times, (2, 3), LONG), (2 * LONG, 3 * LONG))
        self.same(self.answer(times, (), 7), ())

    def test_mixture(self):
        self.same(self.answer(mixture, [(1, -1), (0, 2)], [3, -1], 2), (3, -5))
        self.same(self.answer(mixture, [(1, -1), (1, -1)], [3, -3], 2), (0, 0))
        self.same(self.answer(mixture, [], [], 3), (0, 0, 0))
        self.same(self.answer(mixture, [], [], 0), ())
        self.same(self.answer(mixture, [(), ()], [4, 5], 0), ())
        self.same(self.answer(mixture, [(LONG, 1)], [LONG], 2), (LONG * LONG, LONG))

    def test_dot(self):
        self.same(self.answer(dot, (1, -1), (4, 2)), 2)
        self.same(self.answer(dot, (1, 2, 3), (-3, 0, 1)), 0)
        self.same(self.answer(dot, (), ()), 0)
        self.same(self.answer(dot, (LONG, 1), (LONG, -1)), LONG * LONG - 1)

    def test_is_balanced(self):
        for row in [(), (0, 0), (1, -1), (2, -1, -1), (LONG, 0, -LONG)]:
            self.same(self.answer(is_balanced, row), True)
        for row in [(1,), (1, 1), (2, -1, 0), (LONG, -LONG, 1)]:
            self.same(self.answer(is_balanced, row), False)
