"""The document's own examples, as they stand there, and those of README.md."""

import doctest
import os
import unittest

README = os.path.join(os.path.dirname(os.path.dirname(os.path.abspath(__file__))), "README.md")

STAGE_1 = r'''
>>> from asmuchas.rows import dot, mixture, row_of
>>> from asmuchas.words import is_telling, pairs, sums
>>> [row_of(("a", "b", "c"), (("a", "a"), ("b", "c"))), mixture([(1, -1), (0, 2)], [3, -1], 2), dot((1, -1), (4, 2))]
[(2, -1, -1), (3, -5), 2]
>>> [sums(("a", "b"), 2), is_telling(("alike", ("a", "b"), ("b", "a"))), len(pairs(("a", "b", "c"), 2))]
[[('a', 'a'), ('a', 'b'), ('b', 'b')], False, 15]
'''

STEPS = r'''
>>> from asmuchas.steps import frame, held_steps, multipliers, steps
>>> rows = [(2, -1, -1, 0), (0, 2, -2, 0)]
>>> [steps(rows), multipliers(rows, (4, 0, -4, 0)), frame(rows, 4), held_steps(rows, 4)]
[[(2, 1, -3, 0), (0, 2, -2, 0)], [2, 1], [(1, 1, 1, 0), (0, 0, 0, 1)], [(1, 0, -1, 0), (0, 1, -1, 0)]]
'''

EXAMPLES = {"stage 1": STAGE_1, "steps": STEPS}


class Examples(unittest.TestCase):
    def test_examples(self):
        with open(README, encoding="ascii") as file:
            readme = file.read()
        for name, text in [*EXAMPLES.items(), ("README.md", readme)]:
            with self.subTest(name):
                test = doctest.DocTestParser().get_doctest(text, {}, name, None, 0)
                self.assertGreater(len(test.examples), 0)
                told = []
                failed, _ = doctest.DocTestRunner().run(test, out=told.append)
                self.assertEqual(failed, 0, "".join(told))
