"""The interface: each name, with its arguments, in the file under which the document lists it."""

import importlib
import inspect
import unittest

ERRORS = {
    "Wrong": ["place"], "NoTelling": ["index"], "NotHeld": ["row"], "TooMany": ["limit"], "Refused": ["telling"],
    "NoEntry": ["many"],
}
LISTED = {
    "errors": {name: ["self", *arguments] for name, arguments in ERRORS.items()},
    "words": {
        "is_integer": ["thing"], "is_name": ["thing"], "are_things": ["thing"], "is_sum": ["thing"],
        "is_pair": ["thing"], "is_telling": ["thing"], "sum_of": ["names"], "sums": ["things", "many"],
        "in_order": ["some"], "pairs": ["things", "many"],
    },
    "rows": {
        "row_of": ["things", "pair"], "added": ["one", "other"], "taken": ["one", "other"], "times": ["row", "number"],
        "mixture": ["rows", "numbers", "many"], "dot": ["one", "other"], "is_balanced": ["row"],
    },
    "steps": {
        "steps": ["rows"], "rank": ["rows"], "multipliers": ["rows", "row"], "is_made": ["rows", "row"],
        "frame": ["rows", "many"], "held_steps": ["rows", "many"],
    },
}


class Interface(unittest.TestCase):
    def test_names_and_arguments(self):
        for file, names in LISTED.items():
            module = importlib.import_module(f"asmuchas.{file}")
            for name, arguments in names.items():
                with self.subTest(f"{file}.{name}"):
                    thing = getattr(module, name)
                    self.assertEqual(thing.__module__, module.__name__)
                    called = thing.__init__ if inspect.isclass(thing) else thing
                    self.assertEqual(list(inspect.signature(called).parameters), arguments)
