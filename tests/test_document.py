"""The document's own examples, as they stand there, and those of README.md."""

import doctest
import os
import unittest

README = os.path.join(os.path.dirname(os.path.dirname(os.path.abspath(__file__))), "README.md")

STAGE_1 = r'''
>>> from asmuchas.rows import dot, mixture, row_of
>>> from asmuchas.words import is_telling, pairs, sums
>>> [row_of(("a", "b", "c"), (("a", "a"), ("b", "c"))), mixture([(1, -1), (0, 2)], [3, -1], 2), dot((1, -1), (4, 2))]
[(2, -1, -1), (3, -5), 2]
>>> [sums(("a", "b"), 2), is_telling(("alike", ("a", "b"), ("b", "a"))), len(pairs(("a", "b", "c"), 2))]
[[('a', 'a'), ('a', 'b'), ('b', 'b')], False, 15]
'''

STAGE_2 = r'''
>>> from asmuchas.divisors import divisor, divisors, is_made_on, point, through
>>> from asmuchas.steps import frame, held_steps, multipliers, steps
>>> rows = [(2, -1, -1, 0), (0, 2, -2, 0)]
>>> [steps(rows), multipliers(rows, (4, 0, -4, 0)), frame(rows, 4), held_steps(rows, 4)]
[[(2, 1, -3, 0), (0, 2, -2, 0)], [2, 1], [(1, 1, 1, 0), (0, 0, 0, 1)], [(1, 0, -1, 0), (0, 1, -1, 0)]]
>>> [divisor(rows, (0, 1, -1, 0)), divisor(rows, (1, 0, -1, 0)), divisors(rows, 4), through(rows, (0, 1, -1, 0))]
[2, 4, [1, 4], [4]]
>>> [is_made_on(rows, (0, 1, -1, 0), 2), is_made_on(rows, (0, 1, -1, 0), 4), point(rows, (0, 0, 3, -3)), point(rows, (1, -1, 0, 0))]
[True, False, (0, 0, 1, -1), ()]
'''

STAGE_3 = r'''
>>> from asmuchas.told import Told, renamed
>>> from asmuchas.worths import classes, fits, fits_on, misfits, word_in
>>> told = Told(("a", "b", "o"), [("alike", ("a", "a"), ("b", "o")), ("alike", ("b", "b"), ("o", "o")), ("unlike", ("b",), ("o",))])
>>> [told.rows("alike"), told.indexes("unlike"), told[2], told.is_balanced(), len(told.about(("b", "o")))]
[[(2, -1, -1), (0, 2, -2)], [2], ('unlike', ('b',), ('o',)), True, 2]
>>> four = {"a": 1, "b": 2, "o": 0}
>>> [misfits(told, four), fits_on(told, 4, four), fits(told, {"a": 0, "b": 0, "o": 0}), word_in(four, (("a", "a"), ("b",)))]
[[1], True, False, 'alike']
>>> [classes(four, 1), renamed(told, {"a": "z", "b": "y", "o": "x"})[0]]
[[[('o',)], [('a',)], [('b',)]], ('alike', ('z', 'z'), ('x', 'y'))]
'''

# of the examples of stage 4, what they tell of asmuchas/verdicts.py
VERDICTS = r'''
>>> from asmuchas.told import Told
>>> from asmuchas.verdicts import alike_sums, barring, plain_word
>>> some = Told(("a", "b", "c", "d"), [("alike", ("a", "b"), ("c", "d")), ("unlike", ("a",), ("c",))])
>>> [plain_word(some, pair) for pair in [(("a", "b"), ("c", "d")), (("b",), ("d",)), (("a",), ("b",)), (("a", "a"), ("c", "c"))]]
['alike', 'unlike', 'open', 'unlike']
>>> [barring(some, [(("a",), ("b",)), (("b",), ("c",)), (("b",), ("a",))]), alike_sums(some, 1)]
[[[0, 1], [1, 2]], [[('a',)], [('b',)], [('c',)], [('d',)]]]
'''

EXAMPLES = {"stage 1": STAGE_1, "stage 2": STAGE_2, "stage 3": STAGE_3, "verdicts": VERDICTS}


class Examples(unittest.TestCase):
    def test_examples(self):
        with open(README, encoding="ascii") as file:
            readme = file.read()
        for name, text in [*EXAMPLES.items(), ("README.md", readme)]:
            with self.subTest(name):
                test = doctest.DocTestParser().get_doctest(text, {}, name, None, 0)
                self.assertGreater(len(test.examples), 0)
                told = []
                failed, _ = doctest.DocTestRunner().run(test, out=told.append)
                self.assertEqual(failed, 0, "".join(told))
