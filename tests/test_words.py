"""[1]: names, texts, cells and sequences."""

import unittest

from meltback.words import are_names, is_cell, is_name, is_sequence, is_text
from values import NAMES, NO_CELLS, NO_LISTS_OF_NAMES, NO_NAMES, NO_SEQUENCES, NO_TEXTS, TEXTS


class Words(unittest.TestCase):
    def test_1_names(self):
        for value in NAMES:
            self.assertIs(is_name(value), True, value)
        for value in NO_NAMES:
            self.assertIs(is_name(value), False, value)

    def test_1_texts(self):
        for value in TEXTS:
            self.assertIs(is_text(value), True, value)
        for value in NO_TEXTS:
            self.assertIs(is_text(value), False, value)

    def test_1_each_sign(self):
        for number in range(0x300):
            sign = chr(number)
            letter = "a" <= sign <= "z"
            digit = "0" <= sign <= "9"
            for word in (sign, "x" + sign, sign + "x", "x" + sign + "x"):
                self.assertEqual(is_name(word), letter, word)
                self.assertEqual(is_text(word), letter or digit, word)

    def test_1_cells(self):
        for value in [None, *TEXTS]:
            self.assertIs(is_cell(value), True, value)
        for value in NO_CELLS:
            self.assertIs(is_cell(value), False, value)

    def test_2_sequences(self):
        for value in ([], (), ["a"], ("a",), [None, []]):
            self.assertIs(is_sequence(value), True)
        for value in NO_SEQUENCES + [{}, {"a"}, {"a": 1}, range(2), iter([])]:
            self.assertIs(is_sequence(value), False)

    def test_1_lists_of_names(self):
        for value in (NAMES, tuple(NAMES), ["a"], ("a",)):
            self.assertIs(are_names(value, 0), True)
            self.assertIs(are_names(value, 1), True)
        for value in ([], ()):
            self.assertIs(are_names(value, 0), True)
            self.assertIs(are_names(value, 1), False)
        for value in NO_LISTS_OF_NAMES:
            self.assertIs(are_names(value, 0), False, value)


if __name__ == "__main__":
    unittest.main()
