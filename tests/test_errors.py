"""[5]: the errors."""

import unittest

from meltback import errors
from meltback.errors import InvalidCommand, InvalidKind, InvalidScript, InvalidStep, InvalidTable, InvalidText
from meltback.errors import Mismatch, NoColumn, NoRow, NoStep, TableError
from values import NO_NAMES, NAMES

ONE_ARGUMENT = [
    (InvalidTable, "word"), (InvalidStep, "word"), (InvalidKind, "word"), (InvalidText, "at"),
    (NoRow, "at"), (NoStep, "at"), (NoColumn, "name"),
]


class Errors(unittest.TestCase):
    def test_5_bases(self):
        self.assertEqual(TableError.__bases__, (ValueError,))
        for error in (InvalidTable, InvalidStep, InvalidScript, InvalidKind, InvalidText, InvalidCommand, Mismatch):
            self.assertEqual(error.__bases__, (TableError,))
        self.assertEqual(NoRow.__bases__, (IndexError,))
        self.assertEqual(NoStep.__bases__, (IndexError,))
        self.assertEqual(NoColumn.__bases__, (KeyError,))

    def test_5_no_other_errors(self):
        found = [name for name, value in vars(errors).items() if isinstance(value, type)]
        self.assertEqual(len(found), 11)

    def test_5_one_argument_is_kept_as_it_is(self):
        for error, name in ONE_ARGUMENT:
            for thing in NO_NAMES + NAMES + [{}, object()]:
                self.assertIs(getattr(error(thing), name), thing)
                self.assertIs(getattr(error(**{name: thing}), name), thing)

    def test_5_invalid_script_keeps_two_arguments(self):
        at, word = [1], ["steps"]
        for error in (InvalidScript(at, word), InvalidScript(word=word, at=at), InvalidScript(at, word=word)):
            self.assertIs(error.at, at)
            self.assertIs(error.word, word)

    def test_5_arguments_are_needed(self):
        for error, name in ONE_ARGUMENT:
            with self.assertRaises(TypeError):
                error()
        with self.assertRaises(TypeError):
            InvalidScript(1)

    def test_5_without_arguments(self):
        for error in (TableError, InvalidCommand, Mismatch):
            self.assertIsInstance(error(), ValueError)

    def test_5_are_caught_by_their_bases(self):
        for error, base in ((InvalidScript(1, "new"), TableError), (NoRow(1), IndexError), (NoColumn("a"), KeyError)):
            with self.assertRaises(base):
                raise error

    def test_5_look_ups_are_no_table_errors(self):
        for error in (NoRow, NoStep, NoColumn):
            self.assertFalse(issubclass(error, TableError))

    def test_2_not_iterable(self):
        for error in (TableError(), InvalidScript(0, "new"), NoRow(0), NoColumn("a")):
            with self.assertRaises(TypeError):
                iter(error)


if __name__ == "__main__":
    unittest.main()
