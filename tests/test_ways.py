"""Ways: either some way or some right paper, never both."""

import random
import unittest

from choosing import some_kind, some_script
from drawing import drawn_tables
from meltback.deciding import within
from meltback.errors import Mismatch
from meltback.kinds import Kind
from meltback.scripts import Script
from meltback.shapes import shapes, tells, weight
from meltback.steps import Pick
from meltback.tables import Table
from meltback.ways import kept, no_way, no_way_holds, takes_back, way
from proving import has_the_form, is_right
from reading import kind_of, script_of

COLUMNS = "id may june"
MELT = script_of(COLUMNS, "melt may june as n v")
BACK = script_of("id n v", "pivot id by n v to may june")
ALL = script_of(COLUMNS)
RULES = "id may june ; always id may june ; rule id : may ; rule id : june"


def chosen_cases(seed, many):
    """Two scripts by chance, and a kind, within the limits for ways."""
    chosen = random.Random(seed)
    while many:
        columns = chosen.sample(["a", "b", "c", "d"], chosen.randint(1, 4))
        kind = some_kind(chosen, columns, 3)
        p = some_script(chosen, columns, 3)
        q = p >> some_script(chosen, p.ends, 2) if chosen.random() < 0.4 else some_script(chosen, columns, 2)
        if weight(p, kind) <= 8 and weight(q, kind) <= 4 and all(len(p(shape.table)) <= 3 for shape in shapes(q, kind)):
            many -= 1
            yield chosen, p, q, kind


class Asking(unittest.TestCase):
    def check_way(self, p, q, kind, tables=()):
        r = way(p, q, kind)
        said = (str(p), str(q), str(kind), str(r))
        self.assertIsInstance(r, Script, said)
        self.assertEqual((r.columns, r.ends), (p.ends, q.ends), said)
        self.assertIsNone(no_way(p, q, kind), said)
        self.assertEqual(r, way(p, q, kind))
        self.assertEqual(Script.read(r.columns, str(r)), r)
        for table in [shape.table for shape in shapes(p, kind)] + [shape.table for shape in shapes(q, kind)] + list(tables):
            self.assertEqual(r(p(table)), q(table), said + (table.rows,))
        return r

    def check_no_way(self, p, q, kind):
        paper = no_way(p, q, kind)
        said = (str(p), str(q), str(kind), paper)
        self.assertIsNone(way(p, q, kind), said)
        self.assertTrue(has_the_form(paper) and is_right(p, q, kind, paper), said)
        self.assertIs(no_way_holds(p, q, kind, paper), True, said)
        self.assertEqual(no_way(p, q, kind), paper)
        return paper


class Ways(Asking):
    """[32], [33]: a way from one script to another one, or a paper."""

    def check(self, p, q, kind, is_there=True):
        chosen = random.Random(8)
        if is_there:
            return self.check_way(p, q, kind, drawn_tables(chosen, kind, 20))
        return self.check_no_way(p, q, kind)

    def test_the_example_of_the_overview(self):
        kind = kind_of("id may june ; always id ; rule id : may ; rule id : june")
        self.assertNotEqual(str(self.check(MELT, script_of(COLUMNS, "has may ; pick id may"), kind)), "")
        self.check(MELT, ALL, kind, False)

    def test_nothing_done_and_all(self):
        for text in ["", "pick june id", "has may", "melt may june as n v", "join id ; rename may m ; rename june j ; end", "is id x ; is id y"]:
            for kind in [Kind(COLUMNS.split()), kind_of(RULES)]:
                self.check(ALL, script_of(COLUMNS, text), kind)
        self.check(script_of(COLUMNS, "has id ; has may ; has june"), ALL, kind_of(RULES))
        self.check(script_of(COLUMNS, "has id"), ALL, Kind(COLUMNS.split()), False)

    def test_the_same_script(self):
        for text in ["", "melt may june as n v", "pick id", "is id x ; is id y", "put n x", "stack ; has may ; end"]:
            r = self.check(script_of(COLUMNS, text), script_of(COLUMNS, text), kind_of("id may june ; always id may"))
            self.assertEqual(str(r), "")

    def test_melts_with_and_without_rules(self):
        self.check(MELT, ALL, kind_of(RULES))
        self.check(MELT, ALL, kind_of("id may june ; always id may june ; rule id : may"))
        self.check(MELT, ALL, kind_of("id may june ; always id may june ; rule may : june ; rule id : may"))
        self.check(MELT, ALL, kind_of("id may june ; always id may june"), False)
        self.check(MELT, ALL, kind_of("id may june ; always id may june ; rule may june : id"), False)
        self.check(MELT, ALL, kind_of("id may june ; always id may ; rule id : may ; rule id : june"))
        self.check(MELT, ALL, kind_of("id may june ; always may june ; rule id : may ; rule id : june"), False)

    def test_what_can_be_told_behind_a_melt(self):
        kind = kind_of("id may june ; always id may june")
        for text in ["pick id", "pick may", "pick june id", "melt june as n v ; pick v id n", "is id x ; pick may", "alike id may ; pick id may",
                     "put n x ; pick n", "has may ; pick id", "pick id ; join ; rename id j ; end", "melt may june as n v ; is n may ; pick id v",
                     "join ; pick id ; rename id j ; end ; pick id j", "join may ; pick may ; end ; pick may", "pick id ; melt id as n v"]:
            self.check(MELT, script_of(COLUMNS, text), kind)
        for text in ["pick may june", "alike may june ; pick may", "alike may june ; pick id", "is may x ; pick june", "is may x ; has june ; pick id june"]:
            self.check(MELT, script_of(COLUMNS, text), kind, False)

    def test_pivots(self):
        rows = script_of("id n v")
        pivot = script_of("id n v", "pivot id by n v to h k")
        told = script_of("id n v", "has id ; has n ; has v ; is n h")
        for kind in [Kind(["id", "n", "v"]), kind_of("id n v ; always id n v"), kind_of("id n v ; always id n v ; rule id n : v")]:
            self.check(pivot, rows, kind, False)
            self.check(pivot, told, kind)
            self.check(script_of("id n v", "pivot id by n v to k"), told, kind, False)
            self.check(pivot, script_of("id n v", "pivot id by n v to h ; rename h x"), kind)
            self.check(script_of("id n v", "pivot by n v to h"), told, kind, False)
            self.check(script_of("id n v", "pivot by n v to h"), script_of("id n v", "is n h ; has v ; pick v"), kind)

    def test_pivots_behind_less_than_all(self):
        kind = kind_of("id n v ; always id n v")
        kept_rows = script_of("id n v", "is n h")
        self.check(kept_rows, script_of("id n v", "pivot id by n v to h"), kind)
        self.check(kept_rows, script_of("id n v", "pivot id by n v to k"), kind, False)
        self.check(script_of("id n v", "pivot id by n v to h k"), script_of("id n v", "pivot id by n v to h k ; join id ; rename h o ; rename k p ; end ; pick id"), kind)
        self.check(script_of("id n v", "pick id n"), script_of("id n v", "pivot id by n v to h"), kind, False)

    def test_pivots_joined_with_themselves(self):
        kind = kind_of("id n v ; always id n v ; rule id : v")
        joined = script_of("id n v", "pivot id by n v to h ; join h ; rename id j ; end")
        self.check(joined, script_of("id n v", "pivot id by n v to h"), kind)
        self.check(joined, joined, kind)
        self.check(script_of("id n v", "pivot id by n v to h"), joined, kind)

    def test_joins_and_stacks_within_one_another(self):
        kind = kind_of("a b ; always a b")
        p = script_of("a b", "stack ; rename a c ; rename b a ; rename c b ; end")
        self.check(p, script_of("a b"), kind, False)
        self.check(p, script_of("a b", "alike a b"), kind)
        self.check(p, script_of("a b", "pick a"), kind, False)
        q = script_of("a b", "pick a ; stack ; rename a b ; rename b a ; end")
        self.check(p, script_of("a b", "melt a b as n v ; pick v"), kind)
        self.check(script_of("a b", "pick a ; join ; rename a b ; end"), q, kind)
        self.check(script_of("a b", "put c x ; stack ; rename a d ; rename b a ; rename d b ; pick a b ; put c y ; end"), script_of("a b"), kind)
        self.check(script_of("a b", "stack ; stack ; rename a c ; rename b a ; rename c b ; end ; alike a b ; end"), script_of("a b"), kind)

    def test_walks(self):
        kind = kind_of("a b ; always a b")
        two = script_of("a b", "join b ; rename b c ; rename a b ; end ; has c ; pick a c")
        self.check(two, script_of("a b"), kind, False)
        self.check(two, script_of("a b", "alike a b ; pick a"), kind, False)
        self.check(script_of("a b"), two, kind)
        self.check(script_of("a b", "put c x"), two, kind)

    def test_a_text_that_is_needed_in_two_columns(self):
        kind = kind_of("a b ; always a b")
        for text in ["join a ; pick a ; end ; alike a b", "pick a ; join ; rename a b ; end ; alike a b ; join ; rename a c ; rename b d ; end ; alike a c ; alike b d",
                     "pick a ; join ; rename a b ; end ; alike a b ; put c x"]:
            self.check(script_of("a b", "pick b a"), script_of("a b", text), kind)

    def test_rows_with_one_column_shared_in_exchange(self):
        """The row b a behind a b is met where columns that hold texts have each other's names."""
        kind = Kind(["a", "b", "c"], ["a", "b", "c"], [(("a", "b"), "c"), (("b", "a"), "c")])
        p = script_of("a b c", "put n x ; stack ; rename a o ; rename b a ; rename o b ; pick a b ; put c z ; put n y ; end ; is n x ; pick a b c n")
        self.check(p, script_of("a b c"), kind)
        p = script_of("a b c", "stack ; rename a o ; rename b a ; rename o b ; put d x ; pick a b ; put c y ; end ; melt c as n v")
        self.check(p, script_of("a b c", "is c y"), kind, False)
        self.check(p, script_of("a b c", "pick a b ; stack ; rename a o ; rename b a ; rename o b ; end"), kind)
        swapped = script_of("a b c", "put m x ; pick a b m ; stack ; rename a o ; rename b a ; rename o b ; pick a b ; put m y ; end")
        self.check(swapped, script_of("a b c", "pick a b"), kind)
        self.check(swapped, script_of("a b c", "pick b a"), kind)

    def test_scripts_that_never_tell_anything(self):
        nothing, kind = script_of("a b", "is a x ; is a y"), Kind(["a", "b"])
        other = script_of("a b", "is b x ; is b y ; put waaa u0 ; pick b waaa")
        for q in [nothing, other]:
            for p in [script_of("a b"), nothing, other, script_of("a b", "pick b"), script_of("a b", "put waaa x")]:
                self.check(p, q, kind)
        for p in [nothing, other]:
            for text in ["", "pick a", "put c x ; pick c"]:
                self.assertEqual(self.check(p, script_of("a b", text), kind, False)[1], Table(["a", "b"]))

    def test_columns_that_lack(self):
        kind = Kind(["a", "b", "c"], ["c"])
        for text in ["", "pick b c", "stack ; pick c ; join ; put a x ; is a y ; put b x ; pick a b ; end ; end", "melt a b as n v ; pick c n v", "pick a"]:
            self.check(script_of("a b c", "put d x"), script_of("a b c", text), kind)
        self.check(script_of("a b c", "pick a c"), script_of("a b c", "pick c ; join ; put a x ; is a y ; pick a ; end ; pick a c"), kind)
        self.check(script_of("a b c", "has a"), script_of("a b c", "pick b c"), kind, False)

    def test_told_texts(self):
        for text in ["u0", "u1", "a", "b", "waaa", "x"]:
            kind = Kind(["a", "b"], ["a", "b"])
            p = script_of("a b", f"put c {text} ; stack ; pick b ; put a {text} ; put c y ; end")
            self.check(p, script_of("a b"), kind)
            self.check(p, script_of("a b", f"is a {text}"), kind)
            self.check(script_of("a b", f"stack ; pick b ; put a {text} ; end"), script_of("a b"), kind, False)
            self.check(script_of("a b", f"stack ; pick b ; put a {text} ; end"), script_of("a b", f"pick b ; put a {text}"), kind)
            self.check(script_of("a b", f"is a {text}"), script_of("a b", f"is a {text} ; pick b ; put c {text} ; put d u0"), kind)
            self.check(script_of("a b", f"is a {text}"), script_of("a b", "is a z"), kind, False)
            self.check(script_of("a b", f"put waaa {text}"), script_of("a b", f"is a {text} ; rename b waab ; put waaa u1"), kind)
            self.check(script_of("a b", f"put waaa {text} ; rename a waab"), script_of("a b", "rename a waaa ; join ; rename b waab ; pick waab ; end"), kind)

    def test_columns_that_a_way_would_choose(self):
        kind = Kind(["waaa", "waab"], ["waaa"])
        p = Script(["waaa", "waab"], [])
        swapped = script_of("waaa waab", "rename waaa o ; rename waab waaa ; rename o waab")
        self.check(script_of("waaa waab", "pick waab waaa"), p, kind)
        self.check(script_of("waaa waab", "put waac x ; put waad waaa"), swapped, kind)
        self.check(script_of("waaa waab", "melt waaa waab as waac waad"), script_of("waaa waab", "pick waaa ; rename waaa waad"), kind)

    def test_wrong_columns(self):
        p, kind = script_of("a b", "pick a"), Kind(["a", "b"])
        for q in [script_of("b a"), script_of("a"), script_of("a b c")]:
            for pair in [(p, q), (q, p)]:
                for call in [lambda: way(*pair, kind), lambda: no_way(*pair, kind), lambda: no_way_holds(*pair, kind, None)]:
                    with self.assertRaises(Mismatch):
                        call()
        never = script_of("a b", "is a x ; is a y")
        for other in [script_of("b a"), script_of("a"), script_of("b a", "is a x ; is a y")]:
            for pair in [(never, other), (other, never)]:
                for call in [lambda: way(*pair, kind), lambda: no_way(*pair, kind), lambda: no_way_holds(*pair, kind, None)]:
                    with self.assertRaises(Mismatch):
                        call()
        for columns in [["b", "a"], ["a"], ["a", "b", "c"]]:
            for one in [p, script_of("a b"), never]:
                for call in [lambda: way(one, p, Kind(columns)), lambda: no_way(one, one, Kind(columns)), lambda: no_way_holds(p, one, Kind(columns), ())]:
                    with self.assertRaises(Mismatch):
                        call()

    def test_by_names(self):
        p, q, kind = script_of("a b", "pick a"), script_of("a b"), Kind(["a", "b"])
        self.assertIsNone(way(kind=kind, q=q, p=p))
        self.assertTrue(no_way_holds(value=no_way(q=q, kind=kind, p=p), kind=kind, q=q, p=p))
        self.assertEqual(kept(kind=kind, p=p), (("a",),))
        self.assertFalse(takes_back(kind=kind, r=script_of("a", "put b x"), p=p))


class Short(unittest.TestCase):
    """Any way is right; these are as short as one would write them, but for the names of columns."""

    def check(self, p, q, kind, text):
        self.assertEqual(str(way(p, q, kind)).replace("\n", " ; "), text)

    def test_nothing_is_done(self):
        self.check(script_of("a b", "has a"), script_of("a b", "has a ; stack ; end"), Kind(["a", "b"]), "")

    def test_nothing_was_done(self):
        self.check(script_of("a b"), script_of("a b", "pick b ; has b"), Kind(["a", "b"]), "pick b ; has b")

    def test_rows_that_are_not_needed(self):
        kind = kind_of("id may june ; always id may june")
        short = "has id ; is n may ; has v ; rename id waaa ; rename v waab ; pick waaa waab ; rename waaa id ; rename waab may"
        self.check(MELT, script_of(COLUMNS, "pick id may"), kind, short)

    def test_cases_that_are_not_needed(self):
        short = "has a ; is c x ; rename a waaa ; pick waaa ; rename waaa a"
        self.check(script_of("a b", "put c x"), script_of("a b", "pick a"), Kind(["a", "b"], ["a"]), short)


class ByChance(Asking):
    """[4], [32], [33], [35] for scripts and kinds by chance."""

    def check_some(self, seed, many):
        found = {True: 0, False: 0}
        for chosen, p, q, kind in chosen_cases(seed, many):
            found[way(p, q, kind) is None] += 1
            if way(p, q, kind) is None:
                self.check_no_way(p, q, kind)
            else:
                self.check_way(p, q, kind, drawn_tables(chosen, kind, 2, chosen.choice([4, 12])))
        self.assertGreater(min(found.values()), many // 10)

    def test_ways_and_papers(self):
        self.check_some(11, 600)

    def test_ways_behind_a_melt(self):
        chosen = random.Random(12)
        found = {True: 0, False: 0}
        for number in range(250):
            columns = ["a", "b", "c"]
            kind = some_kind(chosen, columns, 4) & Kind(columns, chosen.sample(columns, 2))
            p = Script(columns, script_of("a b c", chosen.choice(["melt a b as n v", "melt b c as n v ; pick n v a", "melt a c as n v"])).steps)
            q = some_script(chosen, columns, 2)
            if weight(q, kind) > 4 or weight(p, kind) > 8 or any(len(p(shape.table)) > 3 for shape in shapes(q, kind)):
                continue
            found[way(p, q, kind) is None] += 1
            if way(p, q, kind) is None:
                self.check_no_way(p, q, kind)
            else:
                self.check_way(p, q, kind, drawn_tables(chosen, kind, 4))
        self.assertGreater(min(found.values()), 15)

    def test_a_way_tells_the_same_on_all_tables(self):
        """The way is decided again, as a script of its own behind the first one."""
        decided = 0
        for chosen, p, q, kind in chosen_cases(13, 300):
            r = way(p, q, kind)
            if r is not None and weight(p >> r, kind) <= 300:
                decided += 1
                self.assertTrue(within(p >> r, q, kind) and within(q, p >> r, kind), (str(p), str(q), str(kind), str(r)))
        self.assertGreater(decided, 80)


class Kept(Asking):
    """[34]."""

    def check(self, p, kind, sets):
        self.assertEqual(kept(p, kind), sets)
        columns = kind.columns
        for number in range(1, 2 ** len(columns)):
            names = tuple(name for at, name in enumerate(columns) if number >> at & 1)
            is_kept = any(set(names) <= set(larger) for larger in sets)
            q = Script(columns, [Pick(names)])
            if is_kept:
                self.check_way(p, q, kind)
            else:
                self.check_no_way(p, q, kind)

    def test_one_column(self):
        self.check(script_of("a"), Kind(["a"]), (("a",),))
        self.check(script_of("a", "is a x"), Kind(["a"]), ())
        self.check(script_of("a", "is a x ; is a y"), Kind(["a"]), ())
        self.check(script_of("a", "melt a as n v"), Kind(["a"]), (("a",),))

    def test_two_columns(self):
        self.check(script_of("a b"), Kind(["a", "b"]), (("a", "b"),))
        self.check(script_of("b a"), Kind(["b", "a"]), (("b", "a"),))
        self.check(script_of("a b", "pick b"), Kind(["a", "b"]), (("b",),))
        self.check(script_of("a b", "melt a b as n v"), Kind(["a", "b"]), (("a",), ("b",)))
        self.check(script_of("a b", "melt a b as n v"), Kind(["a", "b"], rules=[((), "a")]), (("a",), ("b",)))
        self.check(script_of("a b", "melt a b as n v"), Kind(["a", "b"], ["a", "b"], [((), "a")]), (("a", "b"),))
        self.check(script_of("a b", "has a"), Kind(["a", "b"]), (("a",),))
        self.check(script_of("a b", "stack ; rename a c ; rename b a ; rename c b ; end"), Kind(["a", "b"]), ())

    def test_three_columns(self):
        loose = kind_of("id may june ; always id may june")
        self.check(MELT, loose, (("id", "june"), ("id", "may")))
        self.check(MELT, kind_of(RULES), (("id", "may", "june"),))
        self.check(MELT, Kind(["id", "may", "june"], ["id"]), (("june",), ("may",)))
        self.check(script_of(COLUMNS, "melt may june as n v ; pick n v"), loose, (("june",), ("may",)))
        self.check(script_of(COLUMNS, "pick june may"), loose, (("may", "june"),))

    def test_four_columns(self):
        kind = kind_of("c a d b ; always a b c d")
        self.check(script_of("c a d b", "melt a b as n v"), kind, (("c", "a", "d"), ("c", "d", "b")))
        self.check(script_of("c a d b", "melt a b d as n v"), kind, (("c", "a"), ("c", "b"), ("c", "d")))
        self.check(script_of("c a d b", "pick b c ; melt b as n v"), kind, (("c", "b"),))
        self.check(script_of("c a d b", "melt a b as n v"), kind_of("c a d b ; always a b c d ; rule c d : a"), (("c", "a", "d", "b"),))
        self.check(script_of("c a d b", "is a x"), kind, ())

    def test_another_kind(self):
        for text in ["", "is a x ; is a y"]:
            for columns in [["a"], ["b", "a"], ["a", "b", "c"]]:
                with self.assertRaises(Mismatch):
                    kept(script_of("a b", text), Kind(columns))


class TakesBack(unittest.TestCase):
    """[34]."""

    def test_a_melt(self):
        self.assertIs(takes_back(MELT, BACK, kind_of(RULES)), True)
        self.assertIs(takes_back(MELT, BACK, kind_of("id may june ; always id may june")), False)
        self.assertIs(takes_back(MELT, BACK, kind_of("id may june ; always id may june ; rule id : may")), True)
        self.assertIs(takes_back(MELT, BACK, kind_of("id may june ; always id may ; rule id : may ; rule id : june")), True)
        self.assertIs(takes_back(MELT, BACK, kind_of("id may june ; always id ; rule id : may ; rule id : june")), False)

    def test_others(self):
        kind = Kind(["a", "b"])
        self.assertTrue(takes_back(script_of("a b"), script_of("a b"), kind))
        self.assertTrue(takes_back(script_of("a b", "pick b a"), script_of("b a", "pick a b"), kind))
        self.assertTrue(takes_back(script_of("a b", "put c x"), script_of("a b c", "pick a b"), kind))
        self.assertTrue(takes_back(script_of("a b", "rename a c"), script_of("c b", "rename c a"), kind))
        self.assertTrue(takes_back(script_of("a b", "stack ; alike a b ; end"), script_of("a b"), kind))
        self.assertFalse(takes_back(script_of("a b", "has a"), script_of("a b"), kind))
        self.assertTrue(takes_back(script_of("a b", "has a"), script_of("a b"), Kind(["a", "b"], ["a"])))
        self.assertFalse(takes_back(script_of("a b"), script_of("a b", "is a x ; is a y"), kind))
        self.assertFalse(takes_back(script_of("a b", "is a x ; is a y"), script_of("a b"), kind))

    def test_a_way_to_all_takes_back(self):
        for p, kind in [(MELT, kind_of(RULES)), (script_of(COLUMNS, "put n x ; pick june n id may"), Kind(COLUMNS.split(), ["id", "may"]))]:
            r = way(p, ALL, kind)
            for table in drawn_tables(random.Random(9), kind, 20):
                self.assertEqual((p >> r)(table), table)

    def test_wrong_columns(self):
        p, kind = script_of("a b", "rename b c"), Kind(["a", "b"])
        self.assertTrue(takes_back(p, script_of("a c", "rename c b"), kind))
        for r in [script_of("a b"), script_of("c a", "rename c b ; pick a b"), script_of("a c"), script_of("a c", "rename c b ; pick b a"),
                  script_of("a c", "pick a"), script_of("a c", "put b x")]:
            with self.assertRaises(Mismatch):
                takes_back(p, r, kind)
        for columns in [["b", "a"], ["a"], ["a", "b", "c"]]:
            with self.assertRaises(Mismatch):
                takes_back(p, script_of("a c", "rename c b"), Kind(columns))


if __name__ == "__main__":
    unittest.main()
