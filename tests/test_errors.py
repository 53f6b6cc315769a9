"""Point 3: the errors and their base classes."""

import unittest

from foldchains import errors

NAMES = ("InvalidChain", "InvalidRow", "InvalidNumber", "InvalidText", "TooMany", "NothingToUndo")


class ErrorsTest(unittest.TestCase):
    def test_chain_error_is_a_value_error(self):
        self.assertEqual(errors.ChainError.__bases__, (ValueError,))

    def test_all_others_are_direct_subclasses(self):
        for name in NAMES:
            with self.subTest(name):
                self.assertEqual(getattr(errors, name).__bases__, (errors.ChainError,))

    def test_none_is_a_subclass_of_another_one(self):
        for one in NAMES:
            for other in NAMES:
                told = issubclass(getattr(errors, one), getattr(errors, other))
                self.assertEqual(told, one == other, (one, other))

    def test_names_and_file(self):
        for name in ("ChainError",) + NAMES:
            self.assertEqual(getattr(errors, name).__name__, name)
            self.assertEqual(getattr(errors, name).__module__, "foldchains.errors")

    def test_nothing_else_is_an_error(self):
        found = [name for name, value in vars(errors).items() if isinstance(value, type)]
        self.assertEqual(sorted(found), sorted(("ChainError",) + NAMES))

    def test_they_can_be_raised_and_caught(self):
        for name in NAMES:
            for caught in (getattr(errors, name), errors.ChainError, ValueError):
                with self.assertRaises(caught):
                    raise getattr(errors, name)("why")


if __name__ == "__main__":
    unittest.main()
