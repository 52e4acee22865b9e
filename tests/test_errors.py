"""Errors [20], [4]."""

from asmuchas import errors
from tests.helpers import Case, odd_values

FIELDS = {
    "Wrong": "place", "NoTelling": "index", "NotHeld": "row", "TooMany": "limit", "Refused": "telling",
    "NoEntry": "many",
}
BARE = ["NothingFits", "Ordered", "Unbalanced", "Unlike", "Nothing", "NoText", "NoCommand"]


class Errors(Case):
    def test_much_error_is_the_base(self):
        self.assertEqual(errors.MuchError.__bases__, (ValueError,))
        for given in [(), (1,), ("a", None), ([], {}, object())]:
            self.assertIsInstance(errors.MuchError(*given), ValueError)

    def test_all_others_are_direct_subclasses(self):
        for name in list(FIELDS) + BARE:
            self.assertEqual(getattr(errors, name).__bases__, (errors.MuchError,), name)
            self.assertEqual(getattr(errors, name).__module__, "asmuchas.errors")

    def test_there_are_no_others(self):
        found = [name for name, thing in vars(errors).items() if isinstance(thing, type)]
        self.assertEqual(sorted(found), sorted(["MuchError"] + list(FIELDS) + BARE))

    def test_errors_keep_the_very_objects(self):
        for name, field in FIELDS.items():
            for thing in odd_values() + [1, (1, -1), ("alike", ("a",), ("b",))]:
                self.assertIs(getattr(getattr(errors, name)(thing), field), thing)
                self.assertIs(getattr(getattr(errors, name)(**{field: thing}), field), thing)

    def test_errors_without_arguments(self):
        for name in BARE:
            with self.assertRaises(errors.MuchError) as caught:
                raise getattr(errors, name)()
            self.assertEqual(vars(caught.exception), {})
