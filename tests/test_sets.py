"""Least sets, on which verdicts and blame rest."""

from itertools import combinations
from random import Random

from asmuchas.sets import is_least, is_within, least_sets
from tests.helpers import Case


class Sets(Case):
    def test_is_within(self):
        for less, one, wanted in [([], [], True), ([], [1], True), ([1], [], False), ((1, 3), [3, 2, 1], True),
                                  (["a"], ("a", "b"), True), (("a", "c"), ("a", "b"), False)]:
            self.same(self.answer(is_within, less, one), wanted)

    def test_edges(self):
        self.same(least_sets(0, lambda one: True), [[]])
        self.same(least_sets(0, lambda one: False), [])
        self.same(least_sets(3, lambda one: True), [[]])
        self.same(least_sets(3, lambda one: False), [])
        self.same(least_sets(3, lambda one: len(one) > 1), [[0, 1], [0, 2], [1, 2]])
        self.same(least_sets(3, lambda one: 2 in one or len(one) > 1), [[2], [0, 1]])
        self.same([is_least((), lambda one: True), is_least((), lambda one: False)], [True, False])
        self.same([is_least((1,), lambda one: True), is_least([1, 2], lambda one: len(one) > 1)], [False, True])

    def test_going_through_all_sets(self):
        chance = Random(80)
        for many in range(6):
            every = [list(one) for size in range(many + 1) for one in combinations(range(many), size)]
            for _ in range(12):
                roots = chance.sample(every, min(len(every), chance.randint(0, 4)))

                def is_so(one):
                    return any(set(root) <= set(one) for root in roots)

                so = [one for one in every if is_so(one)]
                wanted = [one for one in so if not any(set(less) < set(one) for less in so)]
                self.same(least_sets(many, is_so), wanted)
                self.same([one for one in every if is_least(one, is_so)], wanted)
