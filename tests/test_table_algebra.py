"""[8]: tables compared, put together and mapped."""

import operator
import random
import unittest
from itertools import product

from meltback.errors import Mismatch
from meltback.steps import Has
from meltback.tables import Table

COMPARISONS = (operator.le, operator.lt, operator.ge, operator.gt)
CELLS = (None, "0", "x")


def parts_of(rows):
    """All parts with texts of rows, found one by one."""
    found = set()
    for row in rows:
        for shown in product((True, False), repeat=len(row)):
            part = tuple(cell if keep else None for cell, keep in zip(row, shown))
            if any(part):
                found.add(part)
    return found


def parts(table):
    return parts_of(table.rows)


def some_tables(many, width, longest):
    chosen = random.Random(many)
    columns = ["a", "b", "c"][:width]
    for number in range(many):
        rows = [[chosen.choice(CELLS) for column in columns] for row in range(chosen.randrange(longest + 1))]
        yield Table(columns, rows), rows


class Model(unittest.TestCase):
    """What the tables tell, beside the sets of all rows that they tell."""

    def test_6_7_rows_and_in(self):
        for table, rows in some_tables(400, 3, 4):
            told = parts_of(rows)
            self.assertEqual(parts_of(table.rows), told)
            for row in table.rows:
                self.assertNotIn(row, parts_of([other for other in table.rows if other != row]))
            for row in product(CELLS, repeat=3):
                self.assertEqual(row in table, row in told)

    def test_8_comparisons(self):
        tables = [table for table, rows in some_tables(60, 2, 3)]
        for one, other in product(tables, repeat=2):
            self.assertIs(one <= other, parts(one) <= parts(other))
            self.assertIs(one < other, parts(one) < parts(other))
            self.assertIs(one >= other, parts(one) >= parts(other))
            self.assertIs(one > other, parts(one) > parts(other))
            self.assertIs(one == other, parts(one) == parts(other))
            self.assertIs(one != other, parts(one) != parts(other))

    def test_8_or_and(self):
        tables = [table for table, rows in some_tables(50, 3, 4)]
        for one, other in product(tables, repeat=2):
            self.assertEqual(parts(one | other), parts(one) | parts(other))
            self.assertEqual(parts(one & other), parts(one) & parts(other))
            self.assertEqual((one & other).rows, Table(one.columns, list(parts(one) & parts(other))).rows)


class Compared(unittest.TestCase):
    def test_8_equal(self):
        one = Table(["a", "b"], [("x", None), ("y", "z")])
        self.assertTrue(one == Table(("a", "b"), (["y", "z"], ["y", None], ["x", None])))
        self.assertFalse(one != Table(["a", "b"], [("y", "z"), ("x", None)]))
        self.assertFalse(one == Table(["a", "b"], [("x", None)]))
        self.assertFalse(one == Table(["a", "c"], one.rows))
        self.assertFalse(Table(["a", "b"]) == Table(["b", "a"]))

    def test_2_equal_to_nothing_of_another_class(self):
        one = Table(["a"], [("x",)])
        for other in (one.rows, one.columns, str(one), (one.columns, one.rows), None, 0, True, Has("a"), [one]):
            self.assertIs(one == other, False)
            self.assertIs(other == one, False)
            self.assertIs(one != other, True)

    def test_8_tells_no_more(self):
        small, large = Table(["a", "b"], [("x", None), (None, "y")]), Table(["a", "b"], [("x", "y")])
        self.assertEqual([compare(small, large) for compare in COMPARISONS], [True, True, False, False])
        self.assertEqual([compare(large, small) for compare in COMPARISONS], [False, False, True, True])
        self.assertEqual([compare(small, small) for compare in COMPARISONS], [True, False, True, False])
        self.assertEqual([compare(Table(["a", "b"]), small) for compare in COMPARISONS], [True, True, False, False])
        apart = Table(["a", "b"], [("y", None)])
        self.assertEqual([compare(small, apart) for compare in COMPARISONS], [False] * 4)

    def test_8_many_rows(self):
        many = Table(["a", "b", "c"], list(product([str(number) for number in range(20)], repeat=3)))
        part = Table(["a", "b", "c"], [(row[0], None, row[2]) for row in many.rows])
        self.assertEqual((len(many), len(part)), (8000, 400))
        self.assertTrue(part < many)
        self.assertFalse(many <= part)
        self.assertEqual(many | part, many)


class PutTogether(unittest.TestCase):
    def test_8_or_of_parts(self):
        one, other = Table(["a", "b"], [("x", None), ("u", "v")]), Table(["a", "b"], [("x", "y"), (None, "v")])
        self.assertEqual((one | other).rows, (("u", "v"), ("x", "y")))
        self.assertEqual(one | Table(["a", "b"]), one)

    def test_8_and_of_parts(self):
        one, other = Table(["a", "b"], [("x", None), ("u", "v")]), Table(["a", "b"], [("x", "y"), (None, "v")])
        self.assertEqual((one & other).rows, ((None, "v"), ("x", None)))
        self.assertEqual((one & Table(["a", "b"])).rows, ())

    def test_9_example_of_and(self):
        table = Table(["a", "b"], [("x", None), ["x", "1"], (None, "2"), (None, None)])
        self.assertEqual((table & Table(["a", "b"], [("x", "2"), ("y", "1")])).rows, ((None, "1"), (None, "2"), ("x", None)))

    def test_8_and_keeps_the_largest_alone(self):
        one = Table(["a", "b", "c"], [("x", "y", None), ("x", None, "z")])
        other = Table(["a", "b", "c"], [("x", "y", "z")])
        self.assertEqual((one & other).rows, (("x", None, "z"), ("x", "y", None)))
        self.assertEqual((one & Table(["a", "b", "c"], [("x", "y", "u")])).rows, (("x", "y", None),))

    def test_2_in_place_operators_change_nothing(self):
        one, other = Table(["a"], [("x",), ("y",)]), Table(["a"], [("y",), ("z",)])
        both, shared = one, one
        both |= other
        shared &= other
        self.assertEqual((both.rows, shared.rows), ((("x",), ("y",), ("z",)), (("y",),)))
        self.assertEqual((one.rows, other.rows), ((("x",), ("y",)), (("y",), ("z",))))

    def test_8_mismatch(self):
        one = Table(["a", "b"], [("x", "y")])
        others = [Table(["b", "a"]), Table(["a"]), Table(["a", "b", "c"]), Table(["a", "c"]), Table(["b", "a"], one.rows)]
        for use in COMPARISONS + (operator.or_, operator.and_, operator.ior, operator.iand):
            for other in others:
                with self.assertRaises(Mismatch):
                    use(one, other)
                with self.assertRaises(Mismatch):
                    use(other, one)


class Mapped(unittest.TestCase):
    def test_8_mapped(self):
        one = Table(["a", "b"], [("x", "y"), ("y", None), ("z", "x")])
        self.assertEqual(one.mapped({"x": "y", "y": "x"}).rows, (("x", None), ("y", "x"), ("z", "y")))
        self.assertEqual(one.mapped(texts={"q": "r"}), one)
        self.assertEqual(one.mapped({}), one)
        self.assertEqual(one.mapped({"x": "y", "y": "x"}).columns, ("a", "b"))

    def test_8_mapped_texts_become_alike(self):
        one = Table(["a", "b"], [("x", "u"), ("y", None), ("z", "v")])
        self.assertEqual(one.mapped({"y": "x"}).rows, (("x", "u"), ("z", "v")))
        self.assertEqual(one.mapped({"z": "x", "v": "u"}).rows, (("x", "u"), ("y", None)))
        self.assertEqual(one.mapped({"x": "w", "y": "w", "z": "w", "u": "w", "v": "w"}).rows, (("w", "w"),))

    def test_8_mapped_is_done_once(self):
        self.assertEqual(Table(["a"], [("x",)]).mapped({"x": "y", "y": "z"}).rows, (("y",),))

    def test_2_mapped_changes_no_argument(self):
        texts = {"x": "y"}
        one = Table(["a"], [("x",)])
        other = one.mapped(texts)
        texts["x"] = "z"
        self.assertEqual((one.rows, other.rows, texts), ((("x",),), (("y",),), {"x": "z"}))


if __name__ == "__main__":
    unittest.main()
