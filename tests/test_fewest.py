"""Tables with the fewest rows on which something is lost, or on which a pivot meets a cell twice."""

import random
import unittest

from choosing import TEXTS, some_kind, some_script, some_table_of
from drawing import drawn_tables, tables_of
from meltback.deciding import doubled, lost, within
from meltback.errors import Mismatch, NoStep
from meltback.kinds import Kind
from meltback.scripts import Script
from meltback.shapes import weight
from meltback.steps import Pivot
from meltback.tables import Table
from reading import kind_of, script_of

ROWS = "id n v"
PIVOT = "pivot id by n v to h k"
NEVER = "put zz x ; is zz y"


def meets_twice(script, at, table):
    """Whether the pivot with this number meets two values, seen on the table ahead of it."""
    pivot, ahead = script[at], script.upto(at)(table)
    met = {}
    for row in ahead.rows:
        cells = dict(zip(ahead.columns, row))
        by = tuple(cells[name] for name in pivot.by)
        if None not in by and cells[pivot.name] in pivot.heads and cells[pivot.value] is not None:
            met.setdefault((by, cells[pivot.name]), set()).add(cells[pivot.value])
    return any(len(values) > 1 for values in met.values())


class Lost(unittest.TestCase):
    """[28]."""

    def check(self, p, q, kind, many, texts=("x", "y", "z")):
        """The rows are so many, and no smaller table over these texts will do."""
        found = lost(p, q, kind)
        self.assertIsInstance(found, tuple)
        table, row = found
        self.assertEqual((len(table), table in kind, row in p(table), row in q(table)), (many, True, True, False), found)
        self.assertIsInstance(row, tuple)
        for fewer in range(1, many):
            for other in tables_of(kind, fewer, texts):
                self.assertLessEqual(p(other), q(other))

    def test_none(self):
        self.assertIsNone(lost(script_of("a b", "has a"), script_of("a b"), Kind(["a", "b"])))
        self.assertIsNone(lost(script_of("a b", "is a x ; is a y"), script_of("a b"), Kind(["a", "b"])))

    def test_one_row(self):
        self.check(script_of("a b"), script_of("a b", "has a"), Kind(["a", "b"]), 1)
        self.check(script_of("a"), script_of("a", "is a x"), Kind(["a"]), 1)
        self.check(script_of("a b"), script_of("a b", "is a x"), Kind(["a", "b"], ["a", "b"], [((), "a")]), 1)

    def test_a_row_for_each_head(self):
        kind = Kind(ROWS.split())
        texts = ["h", "k", "x"]
        p = script_of(ROWS, PIVOT + " ; has h ; has k")
        self.check(p, script_of(ROWS, PIVOT + f" ; {NEVER} ; pick id h k"), kind, 2, texts)
        self.check(p, script_of(ROWS, PIVOT + " ; alike h k"), kind, 2, texts)
        p = script_of(ROWS, "pivot by n v to h k l ; has h ; has k ; has l")
        self.check(p, script_of(ROWS, f"pivot by n v to h k l ; {NEVER} ; pick h k l"), kind_of("id n v ; always id n v ; rule n : id"), 3, ["h", "k", "l"])
        self.check(p, script_of(ROWS, "pivot by n v to h k l ; alike h k ; alike k l"), kind_of("id n v ; always id n v ; rule v : id"), 3, ["h", "k", "l"])

    def test_rows_of_a_shape_are_made_one(self):
        cross = "join ; pick b ; rename b c ; end ; has a ; has c ; pick a c"
        kind = Kind(["a", "b"])
        self.check(script_of("a b", cross), script_of("a b", f"rename b c ; {NEVER} ; pick a c"), kind, 1)
        self.check(script_of("a b", cross), script_of("a b", "has a ; has b ; rename b c"), kind, 2)
        self.check(script_of("a b", cross + " ; is a x ; is c x"), script_of("a b", "has a ; has b ; rename b c"), kind, 2)
        self.check(script_of("a b", cross), script_of("a b", cross + " ; alike a c"), Kind(["a", "b"], ["a", "b"]), 1)
        self.check(script_of("a b", cross), script_of("a b", "has a ; has b ; rename b c"), Kind(["a", "b"], ["a", "b"]), 2)

    def test_rows_that_told_texts_keep_apart(self):
        p = script_of("a b", "join ; rename a c ; rename b d ; end ; is a x ; is c y")
        self.check(p, script_of("a b", f"put c y ; put d y ; {NEVER} ; pick a b c d"), Kind(["a", "b"]), 2)
        p = script_of("a b", "join ; rename a c ; rename b d ; end ; is a x ; is d y")
        self.check(p, script_of("a b", f"put c y ; put d y ; {NEVER} ; pick a b c d"), Kind(["a", "b"]), 1)

    def test_rows_that_rules_make_one_or_keep_apart(self):
        pair = "join ; rename a c ; rename b d ; end ; has a ; has b ; has c ; has d"
        same_b = pair + " ; alike b d"
        self.check(script_of("a b", pair), script_of("a b", same_b), Kind(["a", "b"]), 2)
        self.check(script_of("a b", pair), script_of("a b", pair + " ; alike a c"), Kind(["a", "b"], rules=[(("b",), "a")]), 2)
        self.assertIsNone(lost(script_of("a b", pair), script_of("a b", same_b), Kind(["a", "b"], rules=[((), "b")])))

    def test_three_rows_that_are_all_other_ones(self):
        three = "join ; rename a b ; join ; rename b c ; end ; end"
        some = "put m x ; stack ; alike a b ; pick a b c ; put m y ; end ; stack ; alike a c ; pick a b c ; put m y ; end"
        more = " ; stack ; alike b c ; pick a b c ; put m y ; end ; is m y ; pick a b c"
        p, q = script_of("a", three), script_of("a", f"{three} ; {some}{more}")
        self.check(p, q, Kind(["a"]), 3, ["x", "y", "z", "u"])
        self.check(p, script_of("a", f"{three} ; {some} ; is m y ; pick a b c"), Kind(["a"]), 2, ["x", "y", "z", "u"])

    def test_walks(self):
        """A walk of two steps is lost where rows are asked to be the same; one row that walks to itself does not lose."""
        walk = "join b ; pick a b ; rename b c ; rename a b ; end ; has c ; has a ; pick a c ; rename c b"
        kind = Kind(["a", "b"])
        self.check(script_of("a b", walk), script_of("a b"), kind, 2)
        self.check(script_of("a b", walk), script_of("a b", "alike a b"), kind, 2)
        self.check(script_of("a b"), script_of("a b", walk), kind, 1)

    def test_by_chance(self):
        chosen = random.Random(5)
        sizes = [0] * 4
        for number in range(600):
            columns = chosen.sample(["a", "b"], chosen.randint(1, 2))
            kind = some_kind(chosen, columns, 2)
            p, q = [some_script(chosen, columns, 4) for script in range(2)]
            if p.ends != q.ends or weight(p, kind) > 60 or weight(q, kind) > 60:
                continue
            found = lost(p, q, kind)
            self.assertEqual(found is None, within(p, q, kind))
            if found is None:
                continue
            table, row = found
            sizes[len(table)] += 1
            self.assertTrue(table in kind and row in p(table) and row not in q(table), (str(p), str(q), str(kind)))
            for fewer in range(1, len(table)):
                for other in tables_of(kind, fewer, TEXTS + ["z"]):
                    self.assertLessEqual(p(other), q(other), (str(p), str(q), str(kind)))
        self.assertGreater(sizes[1], 30)

    def test_scripts_that_join_by_chance(self):
        """Rows are asked to be other ones, or the same, so that more than one is needed now and then."""
        chosen = random.Random(6)
        sizes = [0] * 5
        parts = ["alike a c", "alike b d", "alike a d", "alike b c", "has a", "has d", "is a x", "is c y", "is b x"]
        for number in range(250):
            kind = some_kind(chosen, ["a", "b"], 1)
            p, q = [
                script_of("a b", " ; ".join(["join ; rename a c ; rename b d ; end", *chosen.sample(parts, chosen.randint(0, 3))]))
                for script in range(2)
            ]
            found = lost(p, q, kind)
            if found is None:
                self.assertTrue(within(p, q, kind))
                for table in drawn_tables(chosen, kind, 3):
                    self.assertLessEqual(p(table), q(table))
                continue
            table, row = found
            sizes[len(table)] += 1
            self.assertTrue(table in kind and row in p(table) and row not in q(table), (str(p), str(q), str(kind)))
            for other in tables_of(kind, 1, ["x", "y", "z"]) if len(table) > 1 else []:
                self.assertLessEqual(p(other), q(other), (str(p), str(q), str(kind)))
        self.assertGreater(min(sizes[1:3]), 15)


class Doubled(unittest.TestCase):
    """[30]."""

    def check(self, p, at, kind, many, texts=("h", "k", "x", "y")):
        """The rows are so many, and no smaller table over these texts will do."""
        table = doubled(p, at, kind)
        self.assertIsInstance(table, Table)
        self.assertEqual((len(table), table in kind, meets_twice(p, at, table)), (many, True, True), table.rows)
        for fewer in range(1, many):
            for other in tables_of(kind, fewer, texts):
                self.assertFalse(meets_twice(p, at, other))

    def test_cells_that_can_be_there_twice(self):
        self.check(script_of(ROWS, PIVOT), 0, Kind(ROWS.split()), 2)
        self.check(script_of(ROWS, PIVOT), 0, Kind(ROWS.split(), ROWS.split(), [(("v",), "n")]), 2)
        self.check(script_of(ROWS, "pivot by n v to h"), 0, kind_of("id n v ; rule id n : v"), 2)

    def test_rules_by_which_a_cell_is_there_once(self):
        for rules in ["rule id n : v", "rule id : v", "rule : v", "rule n : v", "rule id n : v ; rule v : n"]:
            self.assertIsNone(doubled(script_of(ROWS, PIVOT), 0, kind_of(f"id n v ; {rules}")), rules)
        self.assertIsNone(doubled(script_of(ROWS, "pivot by n v to h k"), 0, kind_of("id n v ; always id ; rule : id ; rule id n : v")))
        self.check(script_of(ROWS, "pivot by n v to h k"), 0, kind_of("id n v ; rule : id ; rule id n : v"), 2)

    def test_a_melt_ahead(self):
        melted = "melt h k as n v ; pivot id by n v to h k"
        self.check(script_of("id h k", melted), 1, Kind(["id", "h", "k"]), 2, ["x", "y"])
        self.assertIsNone(doubled(script_of("id h k", melted), 1, kind_of("id h k ; rule id : h ; rule id : k")))
        self.check(script_of("id h k", melted), 1, kind_of("id h k ; rule id : h"), 2, ["x", "y"])

    def test_one_row_is_enough(self):
        p = script_of("a b", "melt a b as n v ; put m x ; pivot by m v to x")
        self.check(p, 2, Kind(["a", "b"]), 1)
        self.check(p, 2, Kind(["a", "b"], ["a", "b"], [((), "a"), ((), "b")]), 1)
        self.assertIsNone(doubled(script_of("a b", "melt a as n v ; put m x ; pivot b by m v to x"), 2, kind_of("a b ; rule b : a")))

    def test_by_two_columns(self):
        p = script_of("a b n v", "pivot a b by n v to h")
        self.check(p, 0, kind_of("a b n v ; always a b n v"), 2, ["h", "x"])
        self.assertIsNone(doubled(p, 0, kind_of("a b n v ; rule a b n : v")))
        self.assertIsNone(doubled(p, 0, kind_of("a b n v ; rule b : v")))
        self.check(p, 0, kind_of("a b n v ; always a b n v ; rule v : a ; rule v : b"), 2, ["h", "x"])

    def test_told_values(self):
        p = script_of("a b", "stack ; pick b ; put a x ; end ; stack ; pick b ; put a y ; end ; put m x ; pivot b by m a to x")
        self.check(p, 3, Kind(["a", "b"]), 1, ["x", "y"])
        q = script_of("a b", "pick b ; put a x ; put m x ; pivot b by m a to x")
        self.assertIsNone(doubled(q, 3, Kind(["a", "b"])))

    def test_more_rows(self):
        marked = "join ; is n k ; pick n ; rename n m ; end ; has m ; pivot by n v to h"
        self.check(script_of(ROWS, marked), 2, kind_of("id n v ; always id n v"), 3, ["h", "k", "x"])
        self.check(script_of(ROWS, marked.replace("is n k", "is n h")), 2, Kind(ROWS.split()), 2)
        self.check(script_of(ROWS, marked.replace("is n k", "is id x ; rename id o ; rename n id ; rename o n ; pick n")), 2, Kind(ROWS.split()), 2)

    def test_pivots_of_joins(self):
        p = script_of("a b", "join ; rename a c ; rename b d ; end ; put n x ; pivot a by n d to x")
        self.check(p, 2, Kind(["a", "b"]), 2)
        self.check(p, 2, Kind(["a", "b"], ["a", "b"]), 2)
        self.assertIsNone(doubled(p, 2, Kind(["a", "b"], ["a", "b"], [((), "b")])))

    def test_the_second_of_two_pivots(self):
        p = script_of(ROWS, "pivot id by n v to h k ; put m y ; pivot id by m h to y")
        kind = kind_of("id n v ; always id n v")
        self.check(p, 0, kind, 2)
        self.check(p, 2, kind, 2)
        q = script_of(ROWS, "pivot id by n v to h k ; has h ; has k ; put m y ; pivot id by m h to y")
        self.check(q, 4, kind, 3, ["h", "k", "x"])
        self.assertIsNone(doubled(q, 4, kind_of("id n v ; rule id n : v")))

    def test_pivots_that_are_never_met(self):
        p = script_of(ROWS, "is n x ; pivot id by n v to h")
        self.assertIsNone(doubled(p, 1, Kind(ROWS.split())))
        self.assertIsNone(doubled(script_of(ROWS, "is n x ; is n y ; pivot id by n v to x y"), 2, Kind(ROWS.split())))

    def test_texts_that_look_like_unknowns(self):
        for text in ["u0", "u1", "u2"]:
            p = script_of(ROWS, f"is v {text} ; pivot id by n v to h")
            self.assertIsNone(doubled(p, 1, Kind(ROWS.split())))
            p = script_of(ROWS, f"stack ; put m {text} ; pick id n m ; rename m v ; end ; pivot id by n v to h")
            self.check(p, 1, Kind(ROWS.split(), ROWS.split()), 1, ["h", text, "x"])

    def test_by_chance(self):
        chosen = random.Random(7)
        found = [0] * 5
        for number in range(1000):
            columns = chosen.sample(["a", "b", "c"], chosen.randint(2, 3))
            kind = some_kind(chosen, columns, 3)
            ahead = some_script(chosen, columns, 2)
            at = len(ahead)
            if len(ahead.ends) < 2 or weight(ahead, kind) > 40:
                continue
            name, value, *by = chosen.sample(ahead.ends, chosen.randint(2, min(3, len(ahead.ends))))
            heads = [head for head in ["a", "b", "x"] if head not in by]
            p = ahead >> Script(ahead.ends, [Pivot(by, name, value, heads[:chosen.randint(1, len(heads))])])
            table = doubled(p, at, kind)
            found[0 if table is None else len(table)] += 1
            if table is None:
                for other in drawn_tables(chosen, kind, 2):
                    self.assertFalse(meets_twice(p, at, other), (str(p), str(kind)))
                continue
            self.assertTrue(table in kind and meets_twice(p, at, table), (str(p), str(kind)))
            for times in range(10 if len(table) > 1 else 0):
                other = some_table_of(chosen, kind, len(table) - 1)
                self.assertFalse(meets_twice(p, at, other), (str(p), str(kind)))
        self.assertGreater(min(found[:3]), 10, found)

    def test_numbers_of_no_pivot(self):
        p = script_of(ROWS, "has id ; pivot id by n v to h ; stack ; put m h ; pivot id by m h to h ; end ; has h")
        kind = Kind(ROWS.split())
        self.assertIsNotNone(doubled(p, 1, kind))
        for at in [-4, -3, -1, 0, 2, 3, 4, 100, -10**30, 10**30]:
            with self.assertRaises(NoStep) as raised:
                doubled(p, at, kind)
            self.assertEqual(raised.exception.at, at)
        for at in [0, -1, 1]:
            with self.assertRaises(NoStep):
                doubled(script_of(ROWS), at, kind)

    def test_another_kind_is_looked_at_first(self):
        p = script_of(ROWS, "pivot id by n v to h")
        for columns in [["id", "n"], ["n", "id", "v"], ["id", "n", "v", "w"]]:
            for at in [0, 1, -1]:
                with self.assertRaises(Mismatch):
                    doubled(p, at, Kind(columns))

    def test_by_names(self):
        self.assertEqual(len(doubled(kind=Kind(ROWS.split()), at=0, p=script_of(ROWS, PIVOT))), 2)


if __name__ == "__main__":
    unittest.main()
