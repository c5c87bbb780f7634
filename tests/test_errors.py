"""Point 4 and formstead.errors."""

import inspect
import unittest

from formstead import errors
from tests.helpers import nested

WITH = {
    "place": ["InvalidText"],
    "given": [
        "InvalidTerm", "InvalidSource", "InvalidProgram", "InvalidNumber", "InvalidName", "InvalidPlace", "InvalidRows",
        "InvalidSizes",
    ],
    "index": [
        "InvalidBook", "InvalidParts", "InvalidWays", "InvalidNames", "InvalidMemory", "InvalidDevice", "InvalidWrites",
        "NoValue", "BadRows",
    ],
}
BARE = ["Captured", "TooGreat", "NoRoom", "DoesNotStand", "NotNow", "NotMended", "NotThere"]
WHATEVER = [
    None, 0, 7, -1, True, "", "x", (), (1, (2,)), [], [1], {}, {"a": 1}, 10 ** 399, b"x", object(), nested(200),
    nested(200, list),
]


class Errors(unittest.TestCase):
    def test_attributes_by_position_and_by_name(self):
        for attribute, names in WITH.items():
            for name in names:
                made = getattr(errors, name)
                for value in WHATEVER:
                    with self.subTest(name=name, kind=type(value)):
                        self.assertIs(getattr(made(value), attribute), value)
                        self.assertIs(getattr(made(**{attribute: value}), attribute), value)
                        self.assertEqual(list(vars(made(value))), [attribute])

    def test_attributes_are_needed_and_no_others_are_taken(self):
        for names in WITH.values():
            for name in names:
                with self.subTest(name=name):
                    self.assertRaises(TypeError, getattr(errors, name))
                    self.assertRaises(TypeError, getattr(errors, name), 1, 2)

    def test_errors_without_attributes(self):
        for name in BARE + ["FormError"]:
            with self.subTest(name=name):
                self.assertEqual(vars(getattr(errors, name)()), {})

    def test_base_classes(self):
        self.assertEqual(errors.FormError.__mro__, (errors.FormError,) + ValueError.__mro__)
        for name in sum(WITH.values(), []) + BARE:
            made = getattr(errors, name)
            with self.subTest(name=name):
                self.assertEqual(made.__mro__, (made,) + errors.FormError.__mro__)
                self.assertEqual(made.__module__, "formstead.errors")

    def test_methods_are_defined_in_the_classes_themselves(self):
        for name in sum(WITH.values(), []):
            self.assertIn("__init__", vars(getattr(errors, name)))

    def test_each_is_caught_by_its_own_name_and_by_the_base(self):
        for name in sum(WITH.values(), []):
            for caught in (getattr(errors, name), errors.FormError, ValueError):
                with self.assertRaises(caught):
                    raise getattr(errors, name)(3)
        for name in BARE:
            with self.assertRaises(errors.FormError):
                raise getattr(errors, name)()

    def test_there_are_just_these(self):
        found = [name for name, made in vars(errors).items() if inspect.isclass(made)]
        self.assertEqual(sorted(found), sorted(sum(WITH.values(), []) + BARE + ["FormError"]))


if __name__ == "__main__":
    unittest.main()
