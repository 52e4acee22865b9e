"""The interface: each name, with its arguments, in the file under which the document lists it."""

import importlib
import inspect
import unittest

ERRORS = {
    "Wrong": ["place"], "NoTelling": ["index"], "NotHeld": ["row"], "TooMany": ["limit"], "Refused": ["telling"],
    "NoEntry": ["many"],
}
LISTED = {
    "errors": {name: ["self", *arguments] for name, arguments in ERRORS.items()},
    "words": {
        "is_integer": ["thing"], "is_name": ["thing"], "are_things": ["thing"], "is_sum": ["thing"],
        "is_pair": ["thing"], "is_telling": ["thing"], "sum_of": ["names"], "sums": ["things", "many"],
        "in_order": ["some"], "pairs": ["things", "many"],
    },
    "rows": {
        "row_of": ["things", "pair"], "added": ["one", "other"], "taken": ["one", "other"], "times": ["row", "number"],
        "mixture": ["rows", "numbers", "many"], "dot": ["one", "other"], "is_balanced": ["row"],
    },
    "steps": {
        "steps": ["rows"], "rank": ["rows"], "multipliers": ["rows", "row"], "is_made": ["rows", "row"],
        "frame": ["rows", "many"], "held_steps": ["rows", "many"],
    },
    "divisors": {
        "is_held": ["rows", "row"], "is_made_on": ["rows", "row", "size"], "divisor": ["rows", "row"],
        "divisors": ["rows", "many"], "multipliers_on": ["rows", "row", "size"], "through": ["rows", "row"],
        "point": ["rows", "row"],
    },
    "told": {"Told": ["self", "things", "tellings"], "renamed": ["told", "names"]},
    "worths": {
        "are_worths": ["things", "thing"], "are_worths_on": ["things", "size", "thing"], "fits": ["told", "thing"],
        "fits_on": ["told", "size", "thing"], "worth": ["worths", "one"], "worth_on": ["worths", "one", "size"],
        "word_in": ["worths", "pair"], "classes": ["worths", "many"], "misfits": ["told", "worths"],
        "shifted": ["worths", "number"], "stretched": ["worths", "number"],
    },
    "verdicts": {
        "stands": ["told"], "plain_word": ["told", "pair"], "can_be_alike": ["told", "pairs"],
        "barring": ["told", "pairs"], "alike_sums": ["told", "many"],
    },
    "freest": {"frame_of": ["told"], "free": ["told"], "freest": ["told"], "is_freest": ["told", "thing"]},
    "papers": {"plain_paper": ["told", "pair"], "is_plain_paper": ["told", "pair", "thing"]},
    "points": {
        "point_of": ["told", "pair"], "points_told": ["told"], "questions_to": ["told", "worths"],
        "missing": ["told", "worths"],
    },
    "clocks": {
        "is_alike_on": ["told", "pair", "size"], "is_alike_on_all": ["told", "pair"],
        "is_clock_paper": ["told", "pair", "size", "thing"], "let_through": ["told", "pair"],
        "parting_on": ["told", "pair", "size"], "clock_paper": ["told", "pair", "size"],
        "all_worths_on": ["told", "size"], "word_on": ["told", "pair", "size"],
    },
    "sizes": {"Sizes": ["self", "bound", "number", "good", "small"], "sizes_of": ["told", "most"]},
    "orders": {
        "stands_all": ["told"], "some_worths": ["told"], "worths_for": ["told", "pair", "sign"],
        "word_of": ["told", "pair"],
    },
    "weighing": {
        "paper": ["told", "pair"], "is_paper": ["told", "pair", "thing"], "against": ["told"],
        "is_against": ["told", "thing"],
    },
    "plainest": {"plainest": ["told", "most"], "is_plainest": ["told", "thing", "most"]},
    "forms": {
        "form": ["worths"], "turned_about": ["worths"], "same_form": ["one", "other"], "has_one_form": ["told"],
        "one_form": ["told"],
    },
    "readback": {
        "alikes_of": ["worths", "many"], "freedom": ["worths", "many"], "sum_count": ["worths", "many"],
        "has_even_steps": ["worths"], "worths_with": ["things", "some_classes", "most"],
    },
    "blame": {
        "clashes": ["told"], "repairs": ["told"], "surely_wrong": ["told"], "maybe_wrong": ["told"],
        "fewest_wrong": ["told"], "is_clash": ["told", "thing"], "is_repair": ["told", "thing"],
        "are_apart_sets": ["told", "thing"],
    },
    "joins": {"tells_more": ["one", "other"], "news": ["one", "other", "some"]},
    "questions": {"settled": ["told", "pair", "some"], "best_question": ["told", "some"]},
    "book": {"is_entry": ["things", "thing"], "Book": ["self", "things"]},
    "notation": {
        "show_sum": ["one"], "show_pair": ["pair"], "show_telling": ["telling"], "show_told": ["told"],
        "show_entry": ["entry"], "show_book": ["book"], "show_worths": ["worths"],
    },
    "readers": {
        "read_sum": ["text"], "read_pair": ["text"], "read_telling": ["text"], "read_told": ["text"],
        "read_entry": ["text"], "read_book": ["text"], "read_worths": ["text"],
    },
    "desk": {"Desk": ["self", "things"]},
}
# what stands behind a *, with the value that is told
KEYWORDS = {("sizes", "sizes_of"): {"most": 12}, ("plainest", "plainest"): {"most": 9},
            ("plainest", "is_plainest"): {"most": 9}, ("readback", "worths_with"): {"most": 9}}
METHODS = {
    ("told", "Told"): {
        "__eq__": 2, "__len__": 1, "__iter__": 1, "__getitem__": 2, "__or__": 2, "tellings": ["self"],
        "rows": ["self", "word"], "indexes": ["self", "word"], "is_ordered": ["self"], "is_balanced": ["self"],
        "with_telling": ["self", "telling"], "without": ["self", "index"], "about": ["self", "things"],
    },
    ("sizes", "Sizes"): {"__eq__": 2, "__call__": 2, "good": ["self"], "small": ["self"], "least": ["self"]},
    ("book", "Book"): {
        "__eq__": 2, "__len__": 1, "__iter__": 1, "__setitem__": 3, "word": ["self", "pair"], "log": ["self"],
        "do": ["self", "entry"], "cause": ["self", "entry"], "undo": ["self"], "redo": ["self"],
        "past": ["self", "many"], "copied": ["self"], "trial": ["self", "act"],
    },
    ("desk", "Desk"): {"book": ["self"], "say": ["self", "line"]},
}
PROPERTIES = {
    ("told", "Told"): ["things"], ("sizes", "Sizes"): ["bound", "number"], ("book", "Book"): ["things", "told"],
}


class Interface(unittest.TestCase):
    def test_names_and_arguments(self):
        for file, names in LISTED.items():
            module = importlib.import_module(f"asmuchas.{file}")
            for name, arguments in names.items():
                with self.subTest(f"{file}.{name}"):
                    thing = getattr(module, name)
                    self.assertEqual(thing.__module__, module.__name__)
                    called = thing.__init__ if inspect.isclass(thing) else thing
                    parameters = inspect.signature(called).parameters
                    self.assertEqual(list(parameters), arguments)
                    keywords = {one.name: one.default for one in parameters.values() if one.kind == one.KEYWORD_ONLY}
                    self.assertEqual(keywords, KEYWORDS.get((file, name), {}))

    def test_methods_stand_in_the_class_itself(self):
        for (file, name), methods in METHODS.items():
            found = vars(getattr(importlib.import_module(f"asmuchas.{file}"), name))
            for method, arguments in methods.items():
                with self.subTest(f"{name}.{method}"):
                    parameters = list(inspect.signature(found[method]).parameters)
                    self.assertEqual(parameters if isinstance(arguments, list) else len(parameters), arguments)

    def test_properties_stand_in_the_class_itself(self):
        for (file, name), listed in PROPERTIES.items():
            found = vars(getattr(importlib.import_module(f"asmuchas.{file}"), name))
            self.assertTrue(all(isinstance(found[one], property) for one in listed))
