"""Point 14: the errors."""

import unittest

from settledlines import errors
from support import ANY_VALUES

WITH_ARGUMENT = [
    (errors.TooLong, "length"), (errors.BadPlace, "value"), (errors.BadWidth, "value"), (errors.BadWord, "value"),
    (errors.BadText, "value"), (errors.BadSource, "position"), (errors.BadLine, "line"),
]
WITHOUT_ARGUMENT = [errors.Closed, errors.NothingToUndo, errors.NoStream]
ALL = [kind for kind, _ in WITH_ARGUMENT] + WITHOUT_ARGUMENT


class Errors(unittest.TestCase):
    def check_kind(self, error, kind):
        self.assertIs(type(error), kind)
        self.assertIsInstance(error, errors.LineError)
        self.assertIsInstance(error, ValueError)
        for other in ALL:
            self.assertEqual(isinstance(error, other), other is kind)

    def test_bases(self):
        self.assertEqual(errors.LineError.__bases__, (ValueError,))
        for kind in ALL:
            self.assertEqual(kind.__bases__, (errors.LineError,))

    def test_all_errors_are_here(self):
        names = [name for name, value in vars(errors).items() if isinstance(value, type)]
        self.assertEqual(sorted(names), sorted(["LineError"] + [kind.__name__ for kind in ALL]))

    def test_by_position_and_by_name(self):
        for kind, name in WITH_ARGUMENT:
            for value in ANY_VALUES:
                for error in (kind(value), kind(**{name: value})):
                    self.check_kind(error, kind)
                    self.assertIs(getattr(error, name), value)

    def test_without_argument(self):
        for kind in WITHOUT_ARGUMENT:
            self.check_kind(kind(), kind)

    def test_needs_its_argument(self):
        for kind, _ in WITH_ARGUMENT:
            with self.assertRaises(TypeError):
                kind()

    def test_raised_and_caught(self):
        for kind, name in WITH_ARGUMENT:
            for base in (kind, errors.LineError, ValueError):
                with self.assertRaises(base) as caught:
                    raise kind([1])
                self.assertEqual(getattr(caught.exception, name), [1])
        for kind in WITHOUT_ARGUMENT:
            for base in (kind, errors.LineError, ValueError):
                with self.assertRaises(base):
                    raise kind()


if __name__ == "__main__":
    unittest.main()
