"""The document's own examples, as they stand there, and those of README.md."""

import doctest
import os
import unittest

README = os.path.join(os.path.dirname(os.path.dirname(os.path.abspath(__file__))), "README.md")

STAGE_1 = r'''
>>> from asmuchas.rows import dot, mixture, row_of
>>> from asmuchas.words import is_telling, pairs, sums
>>> [row_of(("a", "b", "c"), (("a", "a"), ("b", "c"))), mixture([(1, -1), (0, 2)], [3, -1], 2), dot((1, -1), (4, 2))]
[(2, -1, -1), (3, -5), 2]
>>> [sums(("a", "b"), 2), is_telling(("alike", ("a", "b"), ("b", "a"))), len(pairs(("a", "b", "c"), 2))]
[[('a', 'a'), ('a', 'b'), ('b', 'b')], False, 15]
'''

STAGE_2 = r'''
>>> from asmuchas.divisors import divisor, divisors, is_made_on, point, through
>>> from asmuchas.steps import frame, held_steps, multipliers, steps
>>> rows = [(2, -1, -1, 0), (0, 2, -2, 0)]
>>> [steps(rows), multipliers(rows, (4, 0, -4, 0)), frame(rows, 4), held_steps(rows, 4)]
[[(2, 1, -3, 0), (0, 2, -2, 0)], [2, 1], [(1, 1, 1, 0), (0, 0, 0, 1)], [(1, 0, -1, 0), (0, 1, -1, 0)]]
>>> [divisor(rows, (0, 1, -1, 0)), divisor(rows, (1, 0, -1, 0)), divisors(rows, 4), through(rows, (0, 1, -1, 0))]
[2, 4, [1, 4], [4]]
>>> [is_made_on(rows, (0, 1, -1, 0), 2), is_made_on(rows, (0, 1, -1, 0), 4), point(rows, (0, 0, 3, -3)), point(rows, (1, -1, 0, 0))]
[True, False, (0, 0, 1, -1), ()]
'''

STAGE_3 = r'''
>>> from asmuchas.told import Told, renamed
>>> from asmuchas.worths import classes, fits, fits_on, misfits, word_in
>>> told = Told(("a", "b", "o"), [("alike", ("a", "a"), ("b", "o")), ("alike", ("b", "b"), ("o", "o")), ("unlike", ("b",), ("o",))])
>>> [told.rows("alike"), told.indexes("unlike"), told[2], told.is_balanced(), len(told.about(("b", "o")))]
[[(2, -1, -1), (0, 2, -2)], [2], ('unlike', ('b',), ('o',)), True, 2]
>>> four = {"a": 1, "b": 2, "o": 0}
>>> [misfits(told, four), fits_on(told, 4, four), fits(told, {"a": 0, "b": 0, "o": 0}), word_in(four, (("a", "a"), ("b",)))]
[[1], True, False, 'alike']
>>> [classes(four, 1), renamed(told, {"a": "z", "b": "y", "o": "x"})[0]]
[[[('o',)], [('a',)], [('b',)]], ('alike', ('z', 'z'), ('x', 'y'))]
'''

STAGE_4 = r'''
>>> from asmuchas.freest import free, freest, is_freest
>>> from asmuchas.papers import is_plain_paper
>>> from asmuchas.points import missing, point_of, questions_to
>>> from asmuchas.verdicts import alike_sums, barring, plain_word
>>> some = Told(("a", "b", "c", "d"), [("alike", ("a", "b"), ("c", "d")), ("unlike", ("a",), ("c",))])
>>> [plain_word(some, pair) for pair in [(("a", "b"), ("c", "d")), (("b",), ("d",)), (("a",), ("b",)), (("a", "a"), ("c", "c"))]]
['alike', 'unlike', 'open', 'unlike']
>>> [is_plain_paper(some, (("b",), ("d",)), ("unlike", 1, 1, -1, [1])), point_of(some, (("b",), ("d",))), point_of(some, (("a",), ("c",)))]
[True, (0, 1, 0, -1), (0, 1, 0, -1)]
>>> [barring(some, [(("a",), ("b",)), (("b",), ("c",)), (("b",), ("a",))]), alike_sums(some, 1), free(some)]
[[[0, 1], [1, 2]], [[('a',)], [('b',)], [('c',)], [('d',)]], 3]
>>> [is_freest(some, {"a": 0, "b": 0, "c": 1, "d": -1}), is_freest(some, freest(some))]
[False, True]
>>> aim = {"a": 1, "b": 2, "c": 0, "d": 3}
>>> [missing(some, aim), questions_to(some, aim)]
[1, [('alike', ('a', 'a'), ('b', 'c'))]]
'''

STAGE_5 = r'''
>>> from asmuchas.clocks import all_worths_on, is_alike_on, is_clock_paper, let_through, word_on
>>> from asmuchas.sizes import Sizes, sizes_of
>>> clock_told = Told(("a", "b", "o"), [("alike", ("a", "a"), ("b", "o")), ("alike", ("b", "b"), ("o", "o"))])
>>> [[is_alike_on(clock_told, (("b",), ("o",)), size) for size in (2, 4, 6, 8)], let_through(clock_told, (("b",), ("o",)))]
[[True, False, True, False], [4]]
>>> [is_clock_paper(clock_told, (("b",), ("o",)), 2, ("alike", [1, 0], (-1, 1, 0))), len(all_worths_on(clock_told, 4))]
[True, 16]
>>> apart = clock_told.with_telling(("unlike", ("b",), ("o",)))
>>> [word_on(apart, (("a",), ("b",)), 4), sizes_of(apart) == Sizes(0, 4, [4], []), sizes_of(apart)(8), sizes_of(apart).least()]
['unlike', True, True, 4]
>>> three = Told(("a", "b", "c"), [("unlike", ("a",), ("b",)), ("unlike", ("b",), ("c",)), ("unlike", ("a",), ("c",))])
>>> [sizes_of(three).bound, sizes_of(three).small(), sizes_of(three)(2), word_on(three, (("a", "b"), ("c", "c")), 3)]
[3, [3], False, 'alike']
'''

STAGE_6 = r'''
>>> from asmuchas.orders import stands_all, word_of, worths_for
>>> from asmuchas.told import Told
>>> from asmuchas.weighing import against, is_against, is_paper, paper
>>> some = Told(("a", "b", "c"), [("alike", ("a", "a"), ("b", "c")), ("heavier", ("b",), ("a",))])
>>> [word_of(some, (("a",), ("c",))), word_of(some, (("b",), ("c",))), word_of(some, (("a", "b"), ("c", "c")))]
['heavier', 'heavier', 'heavier']
>>> [is_paper(some, (("a",), ("c",)), ("heavier", 1, [1, 1])), word_of(some, (("a",), ())), worths_for(some, (("a",), ("b",)), 0)]
[True, 'open', None]
>>> parted = Told(("a", "b", "c"), [("alike", ("a", "a"), ("b", "c")), ("unlike", ("b",), ("c",))])
>>> [word_of(parted, (("a",), ("b",))), paper(parted, (("a",), ("b",)))[0], stands_all(parted)]
['unlike', 'unlike', True]
>>> bad = some.with_telling(("heavier", ("c",), ("a",)))
>>> [stands_all(bad), is_against(bad, [1, 1, 1]), is_against(bad, against(bad)), against(some)]
[False, True, True, None]
'''

STAGE_7 = r'''
>>> from asmuchas.forms import form, has_one_form, one_form, turned_about
>>> from asmuchas.plainest import plainest
>>> from asmuchas.readback import alikes_of, freedom, has_even_steps, sum_count, worths_with
>>> [plainest(parted), form({"a": 7, "b": 3, "c": 11}), turned_about({"a": 0, "b": 1, "c": 3}), one_form(parted)]
[{'a': 1, 'b': 0, 'c': 2}, {'a': 1, 'b': 0, 'c': 2}, {'a': 3, 'b': 2, 'c': 0}, {'a': 1, 'b': 0, 'c': 2}]
>>> [has_one_form(parted), has_one_form(Told(("a", "b", "c"), [])), alikes_of({"a": 1, "b": 0, "c": 2}, 2)]
[True, False, [('alike', ('a', 'a'), ('b', 'c'))]]
>>> [freedom({"a": 1, "b": 0, "c": 2}, 2), sum_count({"a": 1, "b": 0, "c": 2}, 2), has_even_steps({"a": 1, "b": 0, "c": 2})]
[2, 5, True]
>>> worths_with(("a", "b"), [[("a", "a")], [("b", "b")], [("a", "b")]])
{'a': 0, 'b': 1}
'''

STAGE_8 = r'''
>>> from asmuchas.blame import clashes, fewest_wrong, repairs
>>> from asmuchas.joins import news, tells_more
>>> from asmuchas.questions import best_question, settled
>>> [clashes(bad), repairs(bad), fewest_wrong(some)]
[[(0, 1, 2)], [(0,), (1,), (2,)], ()]
>>> here, there = Told(("a", "b"), []), Told(("a", "b", "z"), [("alike", ("a",), ("z",)), ("alike", ("b",), ("z",))])
>>> [tells_more(here, there), news(here, there, [(("a",), ("b",)), (("a",), ())])]
[True, [((('a',), ('b',)), 'open', 'alike')]]
>>> both = [(("a",), ("b",)), (("a", "a"), ("b", "b"))]
>>> [settled(here, both[0], both), best_question(here, both), settled(some, (("a",), ("c",)), both)]
[{'alike': 2, 'heavier': 2, 'lighter': 2}, ((('a',), ('b',)), 2), {'heavier': 0}]
'''

STAGE_9 = r'''
>>> from asmuchas.book import Book
>>> from asmuchas.desk import Desk
>>> from asmuchas.readers import read_telling, read_worths
>>> desk = Desk(("a", "b", "c"))
>>> [desk.say(line) for line in ["a + a = b + c", "b > a", "word a ? c", "cause b > c", "strike 0", "word a ? c", "undo", "free"]]
['1 told', '2 told', 'heavier', 'fits', '1 told', 'open', 'strike 0', '2']
>>> [read_telling("a + b != 0"), read_worths("a 3, b -2"), desk.book().word((("b",), ("c",)))]
[('unlike', ('a', 'b'), ()), {'a': 3, 'b': -2}, 'heavier']
'''

# in this order: what one stage names may be asked in a later one
STAGES = {
    "stage 1": STAGE_1, "stage 2": STAGE_2, "stage 3": STAGE_3, "stage 4": STAGE_4, "stage 5": STAGE_5,
    "stage 6": STAGE_6, "stage 7": STAGE_7, "stage 8": STAGE_8, "stage 9": STAGE_9,
}


def run_examples(name, text, known):
    """Return how many examples of a text fail, what was told of them, and all names behind it."""
    test = doctest.DocTestParser().get_doctest(text, known, name, None, 0)
    told = []
    failed, tried = doctest.DocTestRunner().run(test, out=told.append, clear_globs=False)
    return failed if tried else 1, "".join(told), test.globs


class Examples(unittest.TestCase):
    def test_examples_of_the_document(self):
        known = {}
        for name, text in STAGES.items():
            with self.subTest(name):
                failed, told, known = run_examples(name, text, known)
                self.assertEqual(failed, 0, told)

    def test_examples_of_the_readme(self):
        with open(README, encoding="ascii") as file:
            failed, told, _ = run_examples("README.md", file.read(), {})
        self.assertEqual(failed, 0, told)
