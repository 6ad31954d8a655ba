"""[10] and [12] to [14]: what each step makes of a table."""

import random
import unittest
from itertools import permutations

from choosing import NAMES, some_script, some_table
from meltback.scripts import Script
from meltback.steps import Alike, Has, Is, Join, Melt, Pick, Pivot, Put, Rename, Stack
from meltback.tables import Table
from model import model

ROWS = [("1", "x", None), ("1", None, "y"), ("2", "x", "x"), (None, "x", "z")]
TABLE = Table(["a", "b", "c"], ROWS)


class Made(unittest.TestCase):
    def makes(self, steps, table, columns, rows):
        """Whether the steps make these columns and rows of a table, and a script of them ends with these columns."""
        made = Script(table.columns, steps)(table)
        self.assertEqual(made, Table(columns, rows), [str(step) for step in steps])
        self.assertEqual((made.columns, Script(table.columns, steps).ends), (tuple(columns), tuple(columns)))


class Single(Made):
    def test_10_no_steps(self):
        self.makes([], TABLE, ["a", "b", "c"], ROWS)
        self.makes([], Table(["a"]), ["a"], [])

    def test_10_pick(self):
        self.makes([Pick(["a", "b", "c"])], TABLE, ["a", "b", "c"], ROWS)
        self.makes([Pick(["c", "a"])], TABLE, ["c", "a"], [(None, "1"), ("y", "1"), ("x", "2"), ("z", None)])
        self.makes([Pick(["c"])], TABLE, ["c"], [("x",), ("y",), ("z",)])

    def test_10_pick_leaves_out_parts_and_rows_without_texts(self):
        table = Table(["a", "b", "c"], [("1", "x", "p"), ("1", None, "q"), (None, None, "r")])
        self.makes([Pick(["a", "b"])], table, ["a", "b"], [("1", "x")])
        self.makes([Pick(["b"]), Put("d", "e")], table, ["b", "d"], [("x", "e")])

    def test_10_rename(self):
        self.makes([Rename("a", "d")], TABLE, ["d", "b", "c"], ROWS)
        self.makes([Rename("b", "d")], TABLE, ["a", "d", "c"], ROWS)
        self.makes([Rename("b", "b")], TABLE, ["a", "b", "c"], ROWS)
        self.makes([Rename("b", "x"), Rename("a", "b"), Rename("x", "a")], TABLE, ["b", "a", "c"], ROWS)

    def test_10_has(self):
        self.makes([Has("a")], TABLE, ["a", "b", "c"], ROWS[:3])
        self.makes([Has("b")], TABLE, ["a", "b", "c"], [ROWS[0], *ROWS[2:]])
        self.makes([Has("a"), Has("b"), Has("c")], TABLE, ["a", "b", "c"], ROWS[2:3])

    def test_10_is(self):
        self.makes([Is("a", "1")], TABLE, ["a", "b", "c"], ROWS[:2])
        self.makes([Is("c", "z")], TABLE, ["a", "b", "c"], ROWS[3:])
        self.makes([Is("c", "none")], TABLE, ["a", "b", "c"], [])

    def test_10_put(self):
        self.makes([Put("d", "1")], TABLE, ["a", "b", "c", "d"], [(*row, "1") for row in ROWS])
        self.makes([Put("d", "1")], Table(["a"]), ["a", "d"], [])

    def test_10_alike(self):
        self.makes([Alike("b", "c")], TABLE, ["a", "b", "c"], ROWS[2:3])
        self.makes([Alike("c", "b")], TABLE, ["a", "b", "c"], ROWS[2:3])
        self.makes([Alike("a", "b")], TABLE, ["a", "b", "c"], [])
        self.makes([Alike("a", "b")], Table(["a", "b", "c"], [(None, None, "x")]), ["a", "b", "c"], [])

    def test_10_one_behind_another(self):
        steps = [Has("c"), Rename("c", "d"), Pick(["d", "b"]), Put("c", "d"), Is("b", "x")]
        self.makes(steps, TABLE, ["d", "b", "c"], [("x", "x", "d"), ("z", "x", "d")])

    def test_10_tables_without_rows(self):
        empty = Table(["a", "b", "c"])
        steps = [
            Pick(["b"]), Rename("a", "d"), Has("a"), Is("a", "x"), Put("d", "x"), Alike("a", "b"), Melt(["a"], "n", "v"),
            Pivot(["a"], "b", "c", ["h"]), Pivot([], "b", "c", ["h"]), Join([], [Rename("a", "d"), Pick(["d"])]), Stack([]),
        ]
        for step in steps:
            self.assertEqual(Script(empty.columns, [step])(empty).rows, ())


class Melted(Made):
    def test_12_melt(self):
        table = Table(["id", "may", "june"], [("1", "x", "y"), ("2", None, "y")])
        rows = [("1", "may", "x"), ("1", "june", "y"), ("2", "june", "y")]
        self.makes([Melt(["may", "june"], "n", "v")], table, ["id", "n", "v"], rows)
        self.makes([Melt(["june", "may"], "n", "v")], table, ["id", "n", "v"], rows)

    def test_12_cells_that_lack(self):
        table = Table(["id", "may", "june"], [(None, "x", None), ("2", None, None), (None, None, "y")])
        self.makes([Melt(["may", "june"], "n", "v")], table, ["id", "n", "v"], [(None, "may", "x"), (None, "june", "y")])
        self.makes([Melt(["id"], "n", "v")], table, ["may", "june", "n", "v"], [(None, None, "id", "2")])

    def test_12_columns_that_stay_are_ahead(self):
        table = Table(["a", "b", "c", "d"], [("1", "2", "3", "4")])
        self.makes([Melt(["c", "a"], "n", "v")], table, ["b", "d", "n", "v"], [("2", "4", "c", "3"), ("2", "4", "a", "1")])
        self.makes([Melt(["a", "b", "c", "d"], "n", "v")], table, ["n", "v"], list(zip("abcd", "1234")))

    def test_12_names_of_melted_columns_used_again(self):
        table = Table(["a", "b", "c"], [("1", "2", "3")])
        self.makes([Melt(["a", "b"], "a", "b")], table, ["c", "a", "b"], [("3", "a", "1"), ("3", "b", "2")])
        self.makes([Melt(["a", "b"], "b", "a")], table, ["c", "b", "a"], [("3", "a", "1"), ("3", "b", "2")])
        self.makes([Melt(["b"], "b", "n")], table, ["a", "c", "b", "n"], [("1", "3", "b", "2")])

    def test_12_parts_are_left_out(self):
        table = Table(["id", "a", "b"], [("1", "x", None), (None, "x", "y")])
        self.makes([Melt(["a", "b"], "n", "v")], table, ["id", "n", "v"], [("1", "a", "x"), (None, "b", "y")])


class Pivoted(Made):
    def pivots(self, rows, by, heads, made):
        table = Table(["id", "n", "v"], rows)
        self.makes([Pivot(by, "n", "v", heads)], table, [*by, *heads], made)

    def test_13_pivot(self):
        rows = [("1", "may", "x"), ("1", "june", "y"), ("2", "june", "z")]
        self.pivots(rows, ["id"], ["may", "june"], [("1", "x", "y"), ("2", None, "z")])
        self.pivots(rows, ["id"], ["june", "may"], [("1", "y", "x"), ("2", "z", None)])
        self.pivots(rows, ["id"], ["may"], [("1", "x")])
        self.pivots(rows, ["id"], ["july"], [])

    def test_13_two_values_in_one_cell(self):
        rows = [("1", "may", "x"), ("1", "may", "y"), ("1", "june", "z"), ("1", "june", "u"), ("2", "may", "x")]
        made = [("1", "x", "z"), ("1", "x", "u"), ("1", "y", "z"), ("1", "y", "u"), ("2", "x", None)]
        self.pivots(rows, ["id"], ["may", "june"], made)
        self.pivots(rows[:3], ["id"], ["may", "june", "july"], [("1", "x", "z", None), ("1", "y", "z", None)])

    def test_13_cells_that_lack(self):
        for row in [(None, "may", "x"), ("1", None, "x"), ("1", "may", None)]:
            self.pivots([row], ["id"], ["may"], [])
            self.pivots([row, ("2", "may", "y")], ["id"], ["may"], [("2", "y")])

    def test_13_by_nothing(self):
        rows = [("1", "may", "x"), ("2", "may", "y"), ("3", "june", "z"), (None, "june", "u")]
        made = [("x", "z"), ("x", "u"), ("y", "z"), ("y", "u")]
        self.pivots(rows, [], ["may", "june"], made)
        self.pivots(rows[:2], [], ["june"], [])

    def test_13_by_several(self):
        table = Table(["a", "b", "n", "v"], [("1", "2", "h", "x"), ("1", "3", "h", "y"), ("1", "2", "k", "z"), ("1", None, "k", "q")])
        step = Pivot(["b", "a"], "n", "v", ["h", "k"])
        self.makes([step], table, ["b", "a", "h", "k"], [("2", "1", "x", "z"), ("3", "1", "y", None)])

    def test_13_other_columns_go(self):
        table = Table(["a", "b", "n", "v"], [("1", "2", "h", "x"), ("1", "3", "h", "x"), ("1", "3", "k", "y")])
        self.makes([Pivot(["a"], "n", "v", ["h", "k"])], table, ["a", "h", "k"], [("1", "x", "y")])

    def test_13_heads_named_like_columns_that_go(self):
        table = Table(["a", "n", "v", "b"], [("1", "n", "x", "q"), ("1", "v", "y", None), ("1", "b", "z", None)])
        self.makes([Pivot(["a"], "n", "v", ["n", "v", "b"])], table, ["a", "n", "v", "b"], [("1", "x", "y", "z")])

    def test_13_back_and_forth(self):
        table = Table(["id", "may", "june"], [("1", "x", "y"), ("2", None, "y"), ("3", "z", None)])
        steps = [Melt(["may", "june"], "n", "v"), Pivot(["id"], "n", "v", ["may", "june"])]
        self.makes(steps, table, ["id", "may", "june"], table.rows)


class Joined(Made):
    def test_14_join(self):
        table = Table(["a", "b", "c"], [("1", "x", None), ("1", None, "y"), ("2", "z", "u")])
        steps = [Rename("b", "d"), Pick(["a", "d"])]
        made = [("1", "x", None, "x"), ("1", None, "y", "x"), ("2", "z", "u", "z")]
        self.makes([Join(["a"], steps)], table, ["a", "b", "c", "d"], made)

    def test_14_join_without_partner(self):
        table = Table(["a", "b"], [("1", "x"), ("2", "y"), (None, "z"), ("3", None)])
        steps = [Is("b", "x"), Rename("b", "c"), Put("d", "q")]
        made = [("1", "x", "x", "q"), ("2", "y", None, None), (None, "z", None, None), ("3", None, None, None)]
        self.makes([Join(["a"], steps)], table, ["a", "b", "c", "d"], made)
        self.makes([Join(["a"], [Is("b", "none"), Pick(["a"])])], table, ["a", "b"], table.rows)

    def test_14_cells_that_lack_are_no_partners(self):
        table = Table(["a", "b", "c"], [("1", None, "x"), ("1", "2", "y"), (None, None, "z")])
        steps = [Rename("c", "d")]
        made = [("1", None, "x", None), ("1", "2", "y", "y"), (None, None, "z", None)]
        self.makes([Join(["a", "b"], steps)], table, ["a", "b", "c", "d"], made)

    def test_14_join_by_several_in_another_order(self):
        table = Table(["a", "b", "c"], [("1", "2", "x"), ("2", "1", "y")])
        steps = [Rename("c", "d"), Pick(["d", "b", "a"])]
        for names in permutations("ab"):
            self.makes([Join(names, steps)], table, ["a", "b", "c", "d"], [("1", "2", "x", "x"), ("2", "1", "y", "y")])
        swapped = [Rename("c", "d"), Rename("a", "x"), Rename("b", "a"), Rename("x", "b")]
        self.makes([Join(["a", "b"], swapped)], table, ["a", "b", "c", "d"], [("1", "2", "x", "y"), ("2", "1", "y", "x")])

    def test_14_join_by_no_columns(self):
        table = Table(["a"], [("1",), ("2",)])
        pairs = [("1", "1"), ("1", "2"), ("2", "1"), ("2", "2")]
        self.makes([Join([], [Rename("a", "b")])], table, ["a", "b"], pairs)
        self.makes([Join([], [Is("a", "3"), Rename("a", "b")])], table, ["a", "b"], [("1", None), ("2", None)])

    def test_14_the_other_columns_are_in_their_order(self):
        table = Table(["a", "b", "c"], [("1", "2", "3")])
        steps = [Rename("c", "x"), Rename("b", "y"), Pick(["y", "a", "x"])]
        self.makes([Join(["a"], steps)], table, ["a", "b", "c", "y", "x"], [("1", "2", "3", "2", "3")])

    def test_14_steps_begin_at_the_same_table(self):
        table = Table(["a", "b"], [("1", "x"), ("2", "y")])
        steps = [Is("a", "1"), Rename("a", "d"), Join([], [Rename("b", "c"), Pick(["c"])])]
        self.makes(steps, table, ["d", "b", "c"], [("1", "x", "x")])

    def test_14_two_partners(self):
        table = Table(["a", "b"], [("1", "x"), ("1", "y"), ("1", None)])
        made = [("1", b, c) for b in "xy" for c in "xy"]
        self.makes([Join(["a"], [Rename("b", "c")])], table, ["a", "b", "c"], made)


class Stacked(Made):
    def test_14_stack(self):
        table = Table(["a", "b"], [("1", "x"), ("2", "x")])
        steps = [Is("a", "1"), Pick(["b"]), Put("a", "3")]
        self.makes([Stack(steps)], table, ["a", "b"], [("1", "x"), ("2", "x"), ("3", "x")])
        self.makes([Stack([])], table, ["a", "b"], table.rows)

    def test_14_columns_in_any_order(self):
        table = Table(["a", "b", "c"], [("1", "x", None)])
        swapped = [Rename("a", "d"), Rename("b", "a"), Rename("d", "b")]
        self.makes([Stack(swapped)], table, ["a", "b", "c"], [("1", "x", None), ("x", "1", None)])
        self.makes([Stack([Pick(["c", "b", "a"])])], table, ["a", "b", "c"], table.rows)

    def test_14_parts_are_left_out(self):
        table = Table(["a", "b"], [("1", None), (None, "x")])
        self.makes([Stack([Pick(["b"]), Put("a", "1")])], table, ["a", "b"], [("1", "x")])

    def test_14_one_within_another(self):
        table = Table(["a", "b"], [("1", "x"), ("2", "y")])
        inner = Join(["a"], [Is("a", "1"), Rename("b", "c")])
        steps = [Join(["a"], [inner, Pick(["c", "a"])])]
        self.makes(steps, table, ["a", "b", "c"], [("1", "x", "x"), ("2", "y", None)])
        stack = Stack([Is("a", "1"), Stack([Pick(["b"]), Put("a", "3")])])
        self.makes([stack], table, ["a", "b"], [("1", "x"), ("2", "y"), ("3", "x")])
        self.makes([Stack([stack, Is("a", "3")])], table, ["a", "b"], [("1", "x"), ("2", "y"), ("3", "x")])
        both = Stack([Join([], [Pick(["b"]), Rename("b", "c")]), Pick(["a", "c"]), Rename("c", "b")])
        self.makes([both], table, ["a", "b"], [(a, b) for a in "12" for b in "xy"])
        join = Join(["a"], [Stack([Pick(["b"]), Put("a", "2")]), Rename("b", "c")])
        self.makes([join], table, ["a", "b", "c"], [("1", "x", "x"), ("2", "y", "x"), ("2", "y", "y")])


class Model(unittest.TestCase):
    def test_10_12_13_14_beside_the_model(self):
        chosen = random.Random(10)
        for number in range(3000):
            columns = chosen.sample(NAMES, chosen.randint(1, 4))
            script, table = some_script(chosen, columns, 6), some_table(chosen, columns, 5)
            self.assertEqual(script(table), model(script, table), (str(script), str(table)))

    def test_3_many_rows(self):
        table = Table(["a", "b"], [(str(number), None) for number in range(6)] + [(None, str(number)) for number in range(6)])
        steps = [Join([], [Rename("a", "c"), Rename("b", "d")])]
        script = Script(["a", "b"], steps + [Join([], [Rename("a", "e"), Pick(["e"])])])
        self.assertEqual((len(script(table)), len(Script(["a", "b"], steps)(table))), (144 * 6, 144))


if __name__ == "__main__":
    unittest.main()
