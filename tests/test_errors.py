"""Points 3 and the interface's list of errors."""

import copy
import pickle
import unittest

from litdigits import errors
from litdigits.errors import LitError

WITH_STRING = [
    "InvalidPlace", "InvalidTick", "InvalidNumber", "InvalidDigit", "InvalidPattern", "Impossible", "NothingToUndo",
    "InvalidCommand",
]
WITH_FIELD = {
    "InvalidDisplay": "index",
    "InvalidCamera": "index",
    "InvalidHistory": "index",
    "InvalidPicture": "index",
    "InvalidFilm": "index",
    "InvalidFaults": "index",
    "InvalidTests": "index",
    "InvalidCounter": "index",
    "TooLarge": "limit",
    "InvalidSyntax": "word",
}


class Errors(unittest.TestCase):
    def test_all_are_directly_below_lit_error(self):
        for name in [*WITH_STRING, *WITH_FIELD]:
            with self.subTest(name=name):
                self.assertEqual(getattr(errors, name).__bases__, (LitError,))
                self.assertEqual(getattr(errors, name).__module__, "litdigits.errors")
        self.assertEqual(LitError.__bases__, (ValueError,))
        self.assertEqual(LitError.__module__, "litdigits.errors")

    def test_no_other_errors(self):
        found = [name for name, value in vars(errors).items() if isinstance(value, type)]
        self.assertEqual(sorted(found), sorted(["LitError", *WITH_STRING, *WITH_FIELD]))

    def test_errors_with_one_string(self):
        for name in ["LitError", *WITH_STRING]:
            with self.subTest(name=name):
                error = getattr(errors, name)("some words")
                self.assertIsInstance(error, LitError)
                self.assertIsInstance(error, ValueError)
                self.assertEqual(str(error), "some words")
                self.assertEqual(error.args, ("some words",))

    def test_fields_by_position_and_by_name(self):
        for name, field in WITH_FIELD.items():
            for value in (0, 1, 7, 1200, 1201, 10 ** 30, None):
                with self.subTest(name=name, value=value):
                    error_class = getattr(errors, name)
                    for error in (error_class(value), error_class(**{field: value})):
                        self.assertIsInstance(error, LitError)
                        self.assertIsInstance(error, ValueError)
                        self.assertEqual(vars(error), {field: value})
                        self.assertIn(str(value), str(error))

    def test_field_is_asked(self):
        for name in WITH_FIELD:
            with self.subTest(name=name):
                error_class = getattr(errors, name)
                self.assertRaises(TypeError, error_class)
                self.assertRaises(TypeError, error_class, 1, 2)
                self.assertRaises(TypeError, error_class, other=1)

    def test_can_be_raised_and_caught_as_each_of_its_kinds(self):
        for name in WITH_FIELD:
            for kind in (getattr(errors, name), LitError, ValueError):
                with self.subTest(name=name, kind=kind), self.assertRaises(kind):
                    raise getattr(errors, name)(2)
        for name in WITH_STRING:
            for kind in (getattr(errors, name), LitError, ValueError):
                with self.subTest(name=name, kind=kind), self.assertRaises(kind):
                    raise getattr(errors, name)("words")

    def test_copies_keep_the_field(self):
        for name, field in WITH_FIELD.items():
            with self.subTest(name=name):
                error = getattr(errors, name)(3)
                for twin in (copy.copy(error), pickle.loads(pickle.dumps(error))):
                    self.assertIs(type(twin), type(error))
                    self.assertEqual(getattr(twin, field), 3)


if __name__ == "__main__":
    unittest.main()
