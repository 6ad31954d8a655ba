"""[9]: the texts of tables."""

import unittest
from itertools import permutations

from meltback.errors import InvalidText
from meltback.tables import Table
from values import NAMES, TEXTS, WRONG_NAME_STRINGS, WRONG_TEXT_STRINGS


class Texts(unittest.TestCase):
    def raises(self, at, text):
        with self.assertRaises(InvalidText) as caught:
            Table.read(text)
        self.assertEqual(caught.exception.at, at, repr(text))

    def test_9_example(self):
        table = Table(["a", "b"], [("x", None), ["x", "1"], (None, "2"), (None, None)])
        self.assertEqual(str(table & Table(["a", "b"], [("x", "2"), ("y", "1")])), "a b\n- 1\n- 2\nx -")

    def test_9_str(self):
        self.assertEqual(str(Table(["a"])), "a")
        self.assertEqual(str(Table(["ab", "c"], [("y", None), ("x", "10")])), "ab c\nx 10\ny -")
        self.assertEqual(f"{Table(['a'], [['x']])}", "a\nx")

    def test_9_read(self):
        self.assertEqual(Table.read("a"), Table(["a"]))
        self.assertEqual(Table.read(text="b a\nx -\n- y"), Table(["b", "a"], [("x", None), (None, "y")]))

    def test_9_read_gives_back(self):
        rows = [[text, None, "x"] for text in TEXTS] + [[None, text, None] for text in TEXTS]
        tables = [Table(["a", "b", "c"], rows), Table(NAMES), Table(NAMES, [TEXTS])]
        for table in tables:
            self.assertEqual(Table.read(str(table)), table)
            self.assertEqual(str(Table.read(str(table))), str(table))

    def test_9_rows_in_any_order_and_again(self):
        lines = ["x 1", "- 2", "y -"]
        for order in permutations(lines):
            text = "\n".join(["a b", *order, *lines])
            self.assertEqual(str(Table.read(text)), "a b\n- 2\nx 1\ny -")

    def test_9_read_leaves_parts_out(self):
        self.assertEqual(Table.read("a b\nx -\nx y\n- -\n- y").rows, (("x", "y"),))

    def test_9_words_that_part_steps_are_texts(self):
        self.assertEqual(Table.read("a b\nas by\nto end").rows, (("as", "by"), ("to", "end")))

    def test_9_wrong_columns(self):
        for name in WRONG_NAME_STRINGS:
            if "\n" not in name and " " not in name:
                self.raises(0, name)
                self.raises(0, f"a {name}")
                self.raises(0, f"{name} a\n- -")
        for text in ("", "\n", "\na", " a", "a ", "a  b", "a b ", "a a", "a b a", "a\tb", "a\r\nx", "-", "a -"):
            self.raises(0, text)

    def test_9_wrong_rows(self):
        for word in WRONG_TEXT_STRINGS:
            if "\n" not in word and " " not in word and word != "-":
                self.raises(1, f"a\n{word}")
                self.raises(3, f"a b\n- -\nx y\nx {word}\nx y")
                self.raises(2, f"a b\nx y\n{word} x")
        for line in ("", " ", "x", "x y z", "x  y", " x y", "x y ", "x\ty", "x y\r", "- - -", "-", "-- x", "x -y", "X y", "x,y"):
            self.raises(1, f"a b\n{line}")
            self.raises(2, f"a b\nx y\n{line}\nx y")

    def test_9_empty_lines(self):
        self.raises(1, "a\n")
        self.raises(2, "a\nx\n")
        self.raises(1, "a\n\nx")
        self.raises(2, "a\nx\n\n")
        self.raises(3, "a\nx\ny\n")

    def test_9_first_wrong_line_is_told(self):
        self.raises(0, "A\nX")
        self.raises(1, "a\nX\nY")
        self.raises(2, "a\nx\nY\n")


if __name__ == "__main__":
    unittest.main()
