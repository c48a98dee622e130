"""The error classes: their base classes, and what each of them keeps."""

import unittest

from fewnames import errors
from fewnames.base.rounds import Round
from tests.samples import odd_values

WITH_MESSAGE = (
    "InvalidThreads", "InvalidRound", "InvalidRun", "InvalidView", "InvalidProgram", "InvalidGroup", "InvalidWish",
    "InvalidName", "InvalidOperation",
)
KEEPING = {
    "ParseError": (errors.FewError, "at"),
    "InvalidNumber": (IndexError, "given"),
    "UnknownName": (KeyError, "wanted"),
    "NothingToUndo": (LookupError, "many"),
    "TooMany": (OverflowError, "limit"),
    "Refused": (ArithmeticError, "claim"),
}


def error_named(name):
    return getattr(errors, name)


class ErrorsTest(unittest.TestCase):
    def test_few_error_derives_from_value_error(self):
        self.assertEqual(errors.FewError.__bases__, (ValueError,))

    def test_errors_with_a_message_derive_directly_from_few_error(self):
        for name in WITH_MESSAGE:
            with self.subTest(name):
                self.assertEqual(error_named(name).__bases__, (errors.FewError,))

    def test_errors_that_keep_something_have_their_base(self):
        for name, (base, _) in KEEPING.items():
            with self.subTest(name):
                self.assertEqual(error_named(name).__bases__, (base,))

    def test_no_error_is_of_another_class_of_the_package(self):
        names = list(WITH_MESSAGE) + list(KEEPING)
        for name in names:
            for other in names:
                if name != other:
                    with self.subTest(name, other=other):
                        self.assertFalse(issubclass(error_named(name), error_named(other)))

    def test_only_invalid_values_are_few_errors(self):
        for name in ("InvalidNumber", "UnknownName", "NothingToUndo", "TooMany", "Refused"):
            with self.subTest(name):
                self.assertFalse(issubclass(error_named(name), errors.FewError))
                self.assertFalse(issubclass(error_named(name), ValueError))

    def test_errors_are_defined_in_their_module(self):
        for name in ("FewError",) + WITH_MESSAGE + tuple(KEEPING):
            with self.subTest(name):
                self.assertEqual(error_named(name).__module__, "fewnames.errors")
                self.assertEqual(error_named(name).__name__, name)

    def test_an_error_keeps_the_argument_with_which_it_is_made(self):
        for name, (_, kept) in KEEPING.items():
            for value in odd_values() + [0, 7, -3]:
                with self.subTest(name, value=value):
                    self.assertIs(getattr(error_named(name)(value), kept), value)

    def test_an_error_keeps_under_its_own_name_alone(self):
        for name, (_, kept) in KEEPING.items():
            with self.subTest(name):
                self.assertEqual(vars(error_named(name)(5)), {kept: 5})

    def test_errors_that_keep_something_take_just_one_argument(self):
        for name in KEEPING:
            with self.subTest(name):
                self.assertRaises(TypeError, error_named(name))
                self.assertRaises(TypeError, error_named(name), 1, 2)

    def test_errors_with_a_message_tell_it(self):
        for name in ("FewError",) + WITH_MESSAGE:
            with self.subTest(name):
                self.assertEqual(str(error_named(name)("so it is")), "so it is")

    def test_errors_are_caught_as_their_built_in_base(self):
        with self.assertRaises(ValueError):
            Round(())
        with self.assertRaises(IndexError):
            Round(((0,),)).sees(1)


if __name__ == "__main__":
    unittest.main()
