"""[6], [7]: how tables are made, and what they tell."""

import unittest
from itertools import permutations

from meltback.errors import InvalidTable, NoColumn, NoRow
from meltback.steps import Has
from meltback.tables import Table
from values import NAMES, NO_CELLS, NO_LISTS_OF_NAMES, NO_SEQUENCES, OBJECTS, TEXTS, WRONG_NAME_STRINGS

TWO = Table(["a", "b"], [("x", None), ["x", "1"], (None, "2"), (None, None)])


class Made(unittest.TestCase):
    def raises(self, word, *passed):
        with self.assertRaises(InvalidTable) as caught:
            Table(*passed)
        self.assertEqual(caught.exception.word, word, passed)

    def test_6_example(self):
        self.assertEqual(TWO.columns, ("a", "b"))
        self.assertEqual(TWO.rows, ((None, "2"), ("x", "1")))

    def test_6_no_rows(self):
        for table in (Table(["a"]), Table(("a",), []), Table(["a"], ()), Table(["a"], [[None]])):
            self.assertEqual((table.columns, table.rows, len(table)), (("a",), (), 0))

    def test_6_all_names_and_texts(self):
        table = Table(NAMES, [[text] * len(NAMES) for text in TEXTS])
        self.assertEqual(table.columns, tuple(NAMES))
        self.assertEqual([row[0] for row in table.rows], sorted(TEXTS))

    def test_6_parts_are_left_out(self):
        full = ("x", "y", "z")
        parts = [(None, "y", "z"), ("x", None, "z"), ("x", "y", None), ("x", None, None), (None, None, "z"), (None,) * 3]
        self.assertEqual(Table(["a", "b", "c"], parts + [full]).rows, (full,))
        self.assertEqual(Table(["a", "b", "c"], [full] + parts).rows, (full,))

    def test_6_a_part_of_a_part(self):
        rows = [("x", None, None), ("x", "y", None), ("x", None, "z"), ("x", "y", "u")]
        for order in permutations(rows):
            self.assertEqual(Table(["a", "b", "c"], order).rows, (("x", None, "z"), ("x", "y", "u")))

    def test_6_rows_that_overlap_stay(self):
        rows = (("x", None), (None, "y"))
        self.assertEqual(Table(["a", "b"], rows).rows, ((None, "y"), ("x", None)))
        self.assertEqual(Table(["a", "b"], [("x", "y"), ("x", "z"), ("u", None)]).rows, (("u", None), ("x", "y"), ("x", "z")))

    def test_6_same_text_under_another_column_is_no_part(self):
        self.assertEqual(Table(["a", "b"], [("x", None), ("y", "x")]).rows, (("x", None), ("y", "x")))

    def test_6_twice_and_in_another_order(self):
        rows = [("x", "1"), (None, "2"), ("y", None)]
        for order in permutations(rows):
            self.assertEqual(Table(["a", "b"], list(order) + rows).rows, ((None, "2"), ("x", "1"), ("y", None)))

    def test_1_order_of_rows(self):
        rows = ((None, None, "0"), (None, "0", None), ("0", None, None), ("0a", "a", None), ("a", "b", "c"), ("aa", "b", "c"))
        for order in permutations(rows):
            self.assertEqual(Table(["a", "b", "c"], order).rows, rows)

    def test_2_later_changes_have_no_effect(self):
        columns, row = ["a", "b"], ["x", None]
        rows = [row, ("y", "z")]
        table = Table(columns, rows)
        self.assertEqual((columns, rows), (["a", "b"], [["x", None], ("y", "z")]))
        columns[0] = "c"
        row[1] = "u"
        rows.clear()
        self.assertEqual((table.columns, table.rows), (("a", "b"), (("x", None), ("y", "z"))))

    def test_2_tuples(self):
        table = Table(["a", "b"], [["x", None], ["y", "z"]])
        for value in (table.columns, table.rows, *table.rows, table[0], table.texts, table.under("a")):
            self.assertIs(type(value), tuple)

    def test_2_by_name(self):
        self.assertEqual(Table(rows=[["x"]], columns=["a"]), Table(["a"], [["x"]]))

    def test_6_columns(self):
        for columns in NO_LISTS_OF_NAMES + [[], (), *[[name] for name in WRONG_NAME_STRINGS]]:
            self.raises("columns", columns)
            self.raises("columns", columns, [])
            self.raises("columns", columns, None)
            self.raises("columns", columns, [["A", 1], 5])

    def test_6_rows(self):
        for rows in NO_SEQUENCES:
            self.raises("rows", ["a"], rows)

    def test_6_row(self):
        for row in NO_SEQUENCES + [[], (), ["x", "y"], ("x", None), [None] * 7]:
            self.raises("row", ["a"], [row])
            self.raises("row", ("a",), (("x",), row))
            self.raises("row", ["a"], [["X"], row])
            self.raises("row", ["a"], [row, [5]])
        self.raises("row", ["a", "b"], ["xy"])
        self.raises("row", ["a", "b"], [["x", "y"], ["x"]])

    def test_6_cell(self):
        for cell in NO_CELLS:
            self.raises("cell", ["a"], [[cell]])
            self.raises("cell", ["a", "b"], [("x", "y"), (None, cell)])
            self.raises("cell", ["a", "b"], ([cell, "x"],))


class Told(unittest.TestCase):
    def test_7_len_and_index(self):
        self.assertEqual(len(TWO), 2)
        self.assertEqual((TWO[0], TWO[1]), ((None, "2"), ("x", "1")))

    def test_7_no_row(self):
        for table, numbers in ((TWO, (-1, -2, 2, 3, 10**20)), (Table(["a"]), (0, -1, 1))):
            for at in numbers:
                with self.assertRaises(NoRow) as caught:
                    table[at]
                self.assertEqual(caught.exception.at, at)

    def test_7_in(self):
        for row in (("x", "1"), ["x", "1"], ("x", None), [None, "1"], (None, "2")):
            self.assertIs(row in TWO, True, row)
        for row in (("x", "2"), (None, "x"), ("1", "x"), ("x", "2"), ("y", None), ("1", None)):
            self.assertIs(row in TWO, False, row)

    def test_7_in_needs_a_text(self):
        for row in ((None, None), [None, None]):
            self.assertNotIn(row, TWO)
        self.assertNotIn((None,), Table(["a"]))
        self.assertNotIn((None,), Table(["a"], [["x"]]))

    def test_7_in_any_value(self):
        for value in NO_SEQUENCES + NO_CELLS:
            self.assertIs(value in TWO, False)
        for cell in NO_CELLS:
            self.assertIs(["x", cell] in TWO, False)
            self.assertIs((cell, None) in TWO, False)
        for value in ((), ["x"], ("x", "1", None), ("x", "1", "1"), [["x", "1"]], TWO.rows, [TWO, Has("a")], *OBJECTS):
            self.assertIs(value in TWO, False)
        self.assertNotIn("x", Table(["a"], [["x"]]))

    def test_7_texts(self):
        self.assertEqual(TWO.texts, ("1", "2", "x"))
        self.assertEqual(Table(["a"]).texts, ())
        self.assertEqual(Table(["a", "b"], [("b", "a"), ("a", "aa"), ("a", None), (None, "0")]).texts, ("0", "a", "aa", "b"))

    def test_7_under(self):
        self.assertEqual(TWO.under("a"), ("x",))
        self.assertEqual(TWO.under(name="b"), ("1", "2"))
        self.assertEqual(Table(["a", "b"], [("y", "1"), ("x", "2"), ("x", None)]).under("a"), ("x", "y"))
        self.assertEqual(Table(["a", "b"], [("y", None)]).under("b"), ())

    def test_7_no_column(self):
        for name in ["c", "x", "ab", *WRONG_NAME_STRINGS]:
            with self.assertRaises(NoColumn) as caught:
                TWO.under(name)
            self.assertEqual(caught.exception.name, name)

    def test_2_not_iterable(self):
        for table in (TWO, Table(["a"])):
            for use in (iter, list, tuple, sorted, enumerate):
                with self.assertRaises(TypeError):
                    use(table)


if __name__ == "__main__":
    unittest.main()
