"""Promise 13: the errors."""

import unittest

from promisedesk import errors
from promisedesk.errors import BadKind, BadState, BadSyntax, BadValue, DeskError, TooMany

NUMBERED = (BadValue, BadKind, BadState, BadSyntax)


class ErrorsTest(unittest.TestCase):

    def test_base_derives_from_exception_alone(self):
        self.assertEqual(DeskError.__bases__, (Exception,))

    def test_only_base_of_each_is_desk_error(self):
        for error in NUMBERED + (TooMany,):
            self.assertEqual(error.__bases__, (DeskError,), error)

    def test_each_stands_in_its_module(self):
        for error in NUMBERED + (TooMany, DeskError):
            self.assertIs(getattr(errors, error.__name__), error)
            self.assertEqual(error.__module__, "promisedesk.errors")

    def test_numbered_errors_keep_at(self):
        for error in NUMBERED:
            for at in (0, 1, 4, 10 ** 29):
                self.assertEqual(error(at).at, at)
                self.assertEqual(error(at=at).at, at)

    def test_too_many_keeps_word(self):
        for word in ("scenes", "sets"):
            self.assertEqual(TooMany(word).word, word)
            self.assertEqual(TooMany(word=word).word, word)

    def test_each_is_caught_as_desk_error_with_its_attribute(self):
        for error in NUMBERED:
            with self.assertRaises(DeskError) as caught:
                raise error(7)
            self.assertIs(type(caught.exception), error)
            self.assertEqual(caught.exception.at, 7)
        with self.assertRaises(DeskError) as caught:
            raise TooMany("sets")
        self.assertEqual(caught.exception.word, "sets")

    def test_none_is_caught_as_another(self):
        for error in NUMBERED:
            for other in NUMBERED + (TooMany,):
                self.assertEqual(isinstance(error(1), other), error is other)


if __name__ == "__main__":
    unittest.main()
