"""Errors: [0.16]."""

import unittest

from pagewise import errors
from tests.cases import FAR, Case

WITH_MESSAGE = ("InvalidQuery", "InvalidTables", "InvalidOrder", "InvalidRow", "InvalidKey", "InvalidOperation",
                "InvalidEdit", "ParseError", "InvalidCommand")
WITH_VALUE = (("InvalidNumber", "value", IndexError), ("UnknownName", "name", KeyError),
              ("TooMany", "limit", OverflowError), ("Unsorted", "witness", ArithmeticError),
              ("NothingToUndo", "many", LookupError))


class Errors(Case):
    def test_page_error(self):
        self.assertEqual(errors.PageError.__bases__, (ValueError,))
        self.assertEqual(str(errors.PageError("so it is")), "so it is")

    def test_errors_with_a_message(self):
        for name in WITH_MESSAGE:
            error = getattr(errors, name)
            self.assertEqual(error.__bases__, (errors.PageError,), name)
            self.assertEqual(error("so it is").args, ("so it is",), name)

    def test_errors_with_a_value(self):
        for name, attribute, base in WITH_VALUE:
            error = getattr(errors, name)
            self.assertEqual(error.__bases__, (base,), name)
            for value in (None, True, 5, "x", (1, 2), [3], {"x": 1}, FAR):
                self.assertIs(getattr(error(value), attribute), value, name)
                self.assertIsInstance(str(error(value)), str)

    def test_errors_are_defined_in_their_module(self):
        for name in ("PageError", *WITH_MESSAGE, *[name for name, _, _ in WITH_VALUE]):
            self.assertEqual(getattr(errors, name).__module__, "pagewise.errors")

    def test_errors_are_not_derived_from_one_another(self):
        kinds = [getattr(errors, name) for name in WITH_MESSAGE]
        kinds += [getattr(errors, name) for name, _, _ in WITH_VALUE]
        for kind in kinds:
            self.assertEqual([other for other in kinds if issubclass(kind, other)], [kind])
        for name, _, _ in WITH_VALUE:
            self.assertFalse(issubclass(getattr(errors, name), errors.PageError))


if __name__ == "__main__":
    unittest.main()
