"""The promise for scripts and kinds at the limits, in a time that a caller waits for."""

import random
import time
import unittest

from choosing import some_table_of
from meltback.deciding import commuting, doubled, lost, needless, never, same, steady, within
from meltback.kinds import Kind
from meltback.scripts import Script
from meltback.shapes import shapes, tells, weight
from meltback.ways import kept, no_way, no_way_holds, takes_back, way
from reading import kind_of, script_of

# Many times what each of these takes: a slow machine is no fault, a search without end is one.
PATIENCE = 60

SIX = "join ; rename a b ; join ; rename b c ; end ; end ; join ; rename a d ; rename b e ; rename c f ; end"
PIVOTS = "pivot a by n v to h k l ; join ; rename a b ; rename h o ; rename k p ; rename l q ; end"
NINE = "pick a c b ; join ; rename a d ; rename b e ; rename c f ; join ; rename d g ; rename e h ; rename f i ; end ; end"


class Limits(unittest.TestCase):
    """[3], [4]."""

    def setUp(self):
        self.begun = time.monotonic()

    def tearDown(self):
        self.assertLess(time.monotonic() - self.begun, PATIENCE)

    def check_lost(self, p, q, kind, many):
        table, row = lost(p, q, kind)
        self.assertEqual((len(table), table in kind, tells(p, table, row), tells(q, table, row)), (many, True, True, False))

    def test_six_rows_side_by_side(self):
        kind = Kind(["a"])
        p = script_of("a", SIX + " ; stack ; end" * 3)
        self.assertEqual(weight(p, kind), 96)
        self.assertEqual(max(len(shape.table) for shape in shapes(p, kind)), 6)
        self.assertTrue(same(p, script_of("a", SIX), kind))
        self.assertEqual(needless(p, kind), (2, 3, 4))
        self.assertFalse(never(p, kind))
        self.check_lost(p, script_of("a", SIX + " ; alike a f" + " ; stack ; end" * 3), kind, 2)
        self.assertIsNone(lost(script_of("a", SIX + " ; alike a f"), p, kind))

    def test_rows_that_are_all_other_ones(self):
        """Told texts keep six rows apart, so that none is left out."""
        kind = Kind(["a"])
        told = " ; ".join(f"is {name} x{name}" for name in "abcdef")
        self.check_lost(script_of("a", f"{SIX} ; {told}"), script_of("a", f"{SIX} ; {told} ; is a y"), kind, 6)

    def test_pivots_joined_with_themselves(self):
        for kind in [kind_of("a n v ; always a n v"), kind_of("a n v ; always a n v ; rule a n : v ; rule v : n ; rule n : a")]:
            p = script_of("a n v", PIVOTS)
            self.assertEqual(weight(p, kind), 56)
            self.assertTrue(within(p, p, kind))
            self.assertEqual(needless(p, kind), ())
            self.check_lost(p, script_of("a n v", PIVOTS + " ; alike h o"), kind, 1)
        self.check_lost(p, script_of("a n v", PIVOTS + " ; alike a b"), kind_of("a n v ; always a n v"), 2)

    def test_columns_that_may_lack(self):
        kind = kind_of("a b c ; always c ; rule a : b ; rule b : a ; rule a b : c ; rule c : a")
        p = script_of("a b c", NINE)
        self.assertEqual((weight(p, kind), len(p.ends)), (84, 9))
        self.assertTrue(same(p, p, kind))
        self.check_lost(p, script_of("a b c", NINE + " ; alike c i"), kind, 2)
        self.check_lost(p, script_of("a b c", NINE + " ; stack ; alike c i ; end ; has a ; has d ; has g"), kind, 1)

    def test_pivots_of_many_shapes(self):
        p = script_of("a b c", f"{NINE} ; pivot c f i by a b to x")
        for kind, many in [(Kind(["a", "b", "c"], ["c"]), 2), (Kind(["a", "b", "c"], ["c"], [(("c",), "b")]), None)]:
            self.assertEqual(weight(p, kind), 84)
            table = doubled(p, 2, kind)
            self.assertEqual(None if table is None else len(table), many)
        p = script_of("a b c", f"{NINE} ; is c x ; is f y ; is i z ; pivot c f i by a b to x")
        self.assertEqual(len(doubled(p, 5, Kind(["a", "b", "c"], ["c"]))), 4)
        self.assertIsNone(doubled(p, 5, Kind(["a", "b", "c"], ["c"], [(("a",), "b")])))

    def test_five_columns_and_eight_steps(self):
        kind = kind_of("a b c d e ; always a c e ; rule a c : b ; rule b : d ; rule : e ; rule d e : a")
        p = script_of("a b c d e", "melt b d as n v ; put m x ; has v ; pick a c e n v m ; rename m w ; join a c ; pick a c v ; rename v u ; end ; has u ; stack ; end")
        self.assertLessEqual(len(p), 8)
        self.assertTrue(same(p, p, kind))
        self.assertEqual(needless(p, kind), (2, 3, 6, 7))
        walk = script_of("a b c d e", "has b ; has d ; rename b f ; rename d b ; rename f d ; pick a b c d e")
        self.assertFalse(steady(walk, kind))
        self.assertTrue(commuting(walk, walk, kind))

    def test_ways_at_the_limits(self):
        kind = kind_of("a b c d ; always a b ; rule a b : c ; rule a b : d")
        melt = script_of("a b c d", "melt c d as n v")
        self.assertEqual(weight(melt, kind), 8)
        self.assertEqual(kept(melt, kind), (("c",), ("d",)))
        self.assertFalse(takes_back(melt, script_of("a b n v", "pivot a b by n v to c d"), kind))
        stacked = script_of("a b c d", "melt c d as n v ; stack ; put m x ; pick a b n m ; rename m v ; end")
        for text in ["", "has c", "has c ; has d", "pick c d", "melt c d as n v ; pick a v n", "has d ; pick b a d"]:
            q = script_of("a b c d", text)
            for p in [melt, stacked]:
                r, paper = way(p, q, kind), no_way(p, q, kind)
                self.assertEqual(r is None, paper is not None)
                if paper is not None:
                    self.assertTrue(no_way_holds(p, q, kind, paper))
                    continue
                for table in [some_table_of(random.Random(seed), kind, 12) for seed in range(4)]:
                    self.assertEqual(r(p(table)), q(table))

    def test_ways_from_three_rows(self):
        kind = kind_of("i a b c ; always i a b c ; rule i : a ; rule i : b ; rule i : c")
        p = script_of("i a b c", "melt a b c as n v ; stack ; end")
        self.assertEqual(weight(p, kind), 6)
        for text in ["", "stack ; alike a b ; end ; stack ; alike b c ; end", "join ; rename i j ; rename a d ; rename b e ; rename c f ; end"]:
            q = script_of("i a b c", text)
            if text.startswith("join"):
                q = Script(q.columns, [*q.steps, *script_of(" ".join(q.ends), "alike i j ; pick a b c i").steps])
            r = way(p, q, kind)
            self.assertIsNone(no_way(p, q, kind))
            for table in [some_table_of(random.Random(seed), kind, 12) for seed in range(4)]:
                self.assertEqual(r(p(table)), q(table))
        self.assertIsNotNone(no_way(p, script_of("i a b c"), kind_of("i a b c ; always i a b c ; rule i : a")))


if __name__ == "__main__":
    unittest.main()
