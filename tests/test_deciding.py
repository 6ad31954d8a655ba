"""Deciding for all tables of a kind at once: who tells no more, what is needless, steady, commuting, or never told."""

import random
import unittest

from choosing import some_kind, some_script
from drawing import drawn_tables
from meltback.deciding import commuting, lost, needless, never, same, steady, within
from meltback.errors import InvalidScript, Mismatch
from meltback.kinds import Kind
from meltback.scripts import Script
from meltback.shapes import shapes, tells, weight
from reading import kind_of, script_of

ROWS = "id n v"
PIVOT = "pivot id by n v to h k"
# From a over b to the b of a row that begins with this b.
WALK = "has a ; has b ; join b ; pick a b ; rename b c ; rename a b ; end ; has c ; pick a c ; rename c b"
FROM_A_B_TO_A_B = ["", "has a", "is b x", "alike a b", "rename a c ; rename b a ; rename c b ; pick a b", WALK]
FROM_A_B_TO_A_B += ["pick b ; rename b a ; put b x", "stack ; pick b ; rename b a ; put b x ; end", f"stack ; {WALK} ; end"]


def chosen_cases(seed, many, longest=3):
    """Two scripts by chance with the same columns at the beginning and in the end, and a kind."""
    chosen = random.Random(seed)
    while many:
        columns = chosen.sample(["a", "b", "c"], chosen.randint(1, 3))
        kind, p, q = some_kind(chosen, columns, 3), some_script(chosen, columns, longest), some_script(chosen, columns, longest)
        if len(p) and p.ends != q.ends:
            try:
                q = p.without(chosen.randrange(len(p)))
            except InvalidScript:
                continue
        if p.ends == q.ends and weight(p, kind) <= 100 and weight(q, kind) <= 100:
            many -= 1
            yield chosen, p, q, kind


def with_other_unknowns(shape, told):
    """The shape's table and row, with texts in the place of unknowns that look like no others."""
    return shape.mapped({text: f"z{text}" for text in shape.table.texts if text not in told})


class Within(unittest.TestCase):
    """[27], and whether [28] finds anything."""

    def check(self, p, q, kind, there, back):
        self.assertEqual((within(p, q, kind), within(q, p, kind)), (there, back))
        self.assertEqual(same(p, q, kind), there and back)
        self.assertEqual(same(q, p, kind), there and back)
        self.assertEqual((lost(p, q, kind) is None, lost(q, p, kind) is None), (there, back))

    def test_what_keeps_rows_tells_no_more(self):
        kind = Kind(["a", "b"])
        self.check(script_of("a b", "has a"), script_of("a b"), kind, True, False)
        self.check(script_of("a b", "is a x"), script_of("a b", "has a"), kind, True, False)
        self.check(script_of("a b", "alike a b"), script_of("a b", "has b"), kind, True, False)
        self.check(script_of("a b", "is a x"), script_of("a b", "is a y"), kind, False, False)
        self.check(script_of("a b", "has a ; has b"), script_of("a b", "has b ; has a"), kind, True, True)
        self.check(script_of("a b", "is a x ; alike a b"), script_of("a b", "is b x ; alike b a"), kind, True, True)

    def test_parts_of_rows(self):
        kind = Kind(["a", "b"])
        apart = script_of("a b", "stack ; pick a ; join ; put b x ; is b y ; pick b ; end ; end")
        self.check(apart, script_of("a b"), kind, True, True)

    def test_columns_that_are_always_there(self):
        p, q = script_of("a b"), script_of("a b", "has a")
        self.check(p, q, Kind(["a", "b"], ["a"]), True, True)
        self.check(p, q, Kind(["a", "b"], ["b"]), False, True)
        self.check(script_of("a"), script_of("a", "has a"), Kind(["a"]), True, True)

    def test_a_script_and_itself(self):
        for text in ["", "has v", PIVOT, PIVOT + " ; join id ; rename h o ; rename k p ; end", "join ; rename id j ; rename n m ; rename v w ; end"]:
            for kind in [Kind(ROWS.split()), Kind(ROWS.split(), ["id"], [(("id", "n"), "v"), ((), "id")])]:
                self.check(script_of(ROWS, text), script_of(ROWS, text), kind, True, True)

    def test_scripts_that_never_tell_anything(self):
        p, q = script_of("a b", "is a x ; is a y"), script_of("a b", "is b x ; is b y")
        self.check(p, q, Kind(["a", "b"]), True, True)
        self.check(p, script_of("a b"), Kind(["a", "b"]), True, False)

    def test_pivots_of_one_head_and_of_two(self):
        kind = Kind(ROWS.split())
        with self.assertRaises(Mismatch):
            within(script_of(ROWS, PIVOT), script_of(ROWS, "pivot id by n v to h"), kind)
        one = script_of(ROWS, PIVOT + " ; pick id h")
        self.check(one, script_of(ROWS, "is n h ; has v ; pick id v ; rename v h ; has id"), kind, False, True)
        self.check(one, script_of(ROWS, "pivot id by n v to h"), kind, False, True)
        self.check(script_of(ROWS, PIVOT + " ; has h ; pick id h"), script_of(ROWS, "pivot id by n v to h"), kind, True, True)

    def test_pivots_joined_with_themselves(self):
        p = script_of(ROWS, PIVOT + " ; join id ; rename h o ; rename k p ; end ; pick id h p ; rename p k")
        q = script_of(ROWS, PIVOT)
        self.check(p, q, Kind(ROWS.split()), True, True)
        p = script_of(ROWS, PIVOT + " ; join id ; rename h o ; rename k p ; end ; pick id h o")
        q = script_of(ROWS, PIVOT + " ; put o x ; pick id h ; join id ; rename h o ; end ; alike h o")
        self.check(p, q, kind_of("id n v ; always id"), False, True)

    def test_pivots_by_no_columns(self):
        p = script_of(ROWS, "pivot by n v to h k ; has h ; has k")
        q = script_of(ROWS, "pivot id by n v to h k ; has h ; has k ; pick h k")
        self.check(p, q, kind_of("id n v"), False, True)
        self.check(p, q, kind_of("id n v ; always id ; rule : id"), True, True)
        self.check(p, q, kind_of("id n v ; rule : id"), False, True)

    def test_rules(self):
        p = script_of(ROWS, "join id n ; rename v w ; end ; has w")
        q = script_of(ROWS, "join id n ; rename v w ; end ; has w ; alike v w")
        self.check(p, q, kind_of("id n v ; always v"), False, True)
        self.check(p, q, kind_of("id n v ; always v ; rule id n : v"), True, True)
        self.check(p, q, kind_of("id n v ; rule id n : v"), True, True)
        self.check(p, q, kind_of("id n v ; rule id : v"), True, True)
        self.check(p, q, kind_of("id n v ; rule n v : id"), False, True)
        self.check(p, q, kind_of("id n v ; always v ; rule id : n ; rule n : v"), True, True)
        self.check(p, q, kind_of("id n v ; always v ; rule : v"), True, True)
        self.check(p, q, kind_of("id n v ; always v ; rule v : id ; rule id : n ; rule n : id"), False, True)

    def test_a_chain_of_rules_that_passes_by_a_column_that_may_lack(self):
        p = script_of("a b c", "join a ; pick a c ; rename c d ; end ; has c ; has d")
        q = script_of("a b c", "join a ; pick a c ; rename c d ; end ; has c ; has d ; alike c d")
        self.check(p, q, kind_of("a b c ; rule a : b ; rule b : c"), False, True)
        self.check(p, q, kind_of("a b c ; always b ; rule a : b ; rule b : c"), True, True)

    def test_rings_of_rules(self):
        p = script_of("a b", "join a ; rename b c ; end ; has c ; pick b c")
        q = script_of("a b", "join a ; rename b c ; end ; has c ; alike b c ; pick b c")
        r = script_of("a b", "has a ; has b ; join b ; rename a c ; end ; alike a c ; pick b ; join b ; pick b ; end ; put c x ; pick b c")
        self.check(p, q, kind_of("a b ; always a b ; rule a : b ; rule b : a"), True, True)
        self.check(p, r, kind_of("a b ; always a b ; rule a : b ; rule b : a"), False, False)

    def test_joins_and_stacks_within_one_another(self):
        p = script_of("a b", "stack ; join a ; stack ; rename a c ; rename b a ; rename c b ; end ; rename b c ; end ; has c ; pick a c ; rename c b ; end")
        q = script_of("a b", "stack ; has a ; join a ; rename b c ; end ; has c ; pick a c ; rename c b ; end ; "
                      "stack ; join a ; pick a b ; rename a c ; rename b a ; end ; has c ; pick a c ; rename c b ; end")
        self.check(p, q, Kind(["a", "b"]), True, True)
        self.check(p, script_of("a b"), Kind(["a", "b"]), False, True)

    def test_told_texts_that_look_like_unknowns(self):
        for text in ["u0", "u1", "a", "b", "waaa"]:
            p, q = script_of("a b"), script_of("a b", f"is a {text}")
            self.check(p, q, Kind(["a", "b"], ["a"]), False, True)
            self.check(script_of("a b", "put c u0"), script_of("a b", f"put c u0 ; is a {text}"), Kind(["a", "b"], ["a"]), False, True)

    def test_by_names(self):
        p, q, kind = script_of("a b", "has a"), script_of("a b"), Kind(["a", "b"])
        self.assertTrue(within(kind=kind, q=q, p=p))
        self.assertFalse(same(q=q, kind=kind, p=p))
        self.assertIsNone(lost(kind=kind, p=p, q=q))
        self.assertEqual(needless(kind=kind, p=p), ())
        self.assertTrue(steady(kind=kind, p=p))
        self.assertTrue(commuting(kind=kind, q=q, p=p))
        self.assertFalse(never(kind=kind, p=p))


class Held(unittest.TestCase):
    """[4], [27], [28], [29], [31]: the answers, held against the steps done on tables."""

    def test_within_and_same_on_tables(self):
        answers = {True: 0, False: 0}
        for chosen, p, q, kind in chosen_cases(1, 250):
            there = within(p, q, kind)
            answers[there] += 1
            little = [with_other_unknowns(shape, p.texts) for shape in shapes(p, kind)]
            self.assertEqual(there, all(tells(q, table, row) for table, row in little), (str(p), str(q), str(kind)))
            if there:
                for table in drawn_tables(chosen, kind, 6):
                    self.assertLessEqual(p(table), q(table), (str(p), str(q), str(kind)))
            else:
                table, row = lost(p, q, kind)
                self.assertTrue(table in kind and row in p(table) and row not in q(table), (str(p), str(q), str(kind)))
            self.assertEqual(same(p, q, kind), there and within(q, p, kind))
        self.assertGreater(min(answers.values()), 30)

    def test_needless_on_tables(self):
        found = 0
        for chosen, p, q, kind in chosen_cases(2, 120, 4):
            numbers = needless(p, kind)
            self.assertEqual(numbers, tuple(sorted(set(numbers))))
            found += len(numbers)
            for at in range(len(p)):
                try:
                    rest = p.without(at)
                except InvalidScript:
                    self.assertNotIn(at, numbers)
                    continue
                if at in numbers:
                    self.assertEqual(rest.ends, p.ends)
                    for table in drawn_tables(chosen, kind, 4):
                        self.assertEqual(p(table), rest(table), (str(p), at, str(kind)))
                elif rest.ends == p.ends:
                    self.assertTrue(lost(p, rest, kind) or lost(rest, p, kind))
        self.assertGreater(found, 30)

    def test_steady_commuting_and_never_on_tables(self):
        told = {True: 0, False: 0}
        chosen = random.Random(3)
        pairs = [(script_of("a b", p), script_of("a b", q)) for p in FROM_A_B_TO_A_B for q in FROM_A_B_TO_A_B]
        for p, q in pairs * 2:
            kind = some_kind(chosen, ["a", "b"], 2)
            is_steady, are_commuting = steady(p, kind), commuting(p, q, kind)
            told[is_steady] += 1
            told[are_commuting] += 1
            self.assertEqual(is_steady, lost(p >> p, p, kind) is None and lost(p, p >> p, kind) is None)
            self.assertEqual(are_commuting, lost(p >> q, q >> p, kind) is None and lost(q >> p, p >> q, kind) is None)
            for table in drawn_tables(chosen, kind, 4):
                if is_steady:
                    self.assertEqual(p(p(table)), p(table), (str(p), str(kind)))
                if are_commuting:
                    self.assertEqual(p(q(table)), q(p(table)), (str(p), str(q), str(kind)))
        self.assertGreater(min(told.values()), 20)

    def test_never_on_tables(self):
        nothing = 0
        for chosen, p, q, kind in chosen_cases(4, 250):
            self.assertEqual(never(p, kind), shapes(p, kind) == ())
            nothing += never(p, kind)
            for table in drawn_tables(chosen, kind, 4) if never(p, kind) else []:
                self.assertEqual(len(p(table)), 0, (str(p), str(kind)))
        self.assertGreater(nothing, 4)


class Needless(unittest.TestCase):
    """[29]."""

    def test_steps_that_others_bring(self):
        kind = Kind(["a", "b"])
        self.assertEqual(needless(script_of("a b", "has a ; has a"), kind), (0, 1))
        self.assertEqual(needless(script_of("a b", "has a ; is a x"), kind), (0,))
        self.assertEqual(needless(script_of("a b", "is a x ; alike a b ; has b ; is b x"), kind), (0, 1, 2, 3))
        self.assertEqual(needless(script_of("a b", "is a x ; alike a b ; has b"), kind), (2,))
        self.assertEqual(needless(script_of("a b", "has a ; has b"), kind), ())
        self.assertEqual(needless(script_of("a b", "has a ; has b"), Kind(["a", "b"], ["b"])), (1,))
        self.assertEqual(needless(script_of("a b", "rename a a ; pick a b ; stack ; has a ; end"), kind), (0, 1, 2))

    def test_steps_without_which_there_is_no_such_script(self):
        kind = Kind(["a", "b"])
        self.assertEqual(needless(script_of("a b", "rename a c ; has c"), kind), ())
        self.assertEqual(needless(script_of("a b", "rename a c ; has c"), Kind(["a", "b"], ["a"])), (1,))
        self.assertEqual(needless(script_of("a b", "put c x ; has c"), kind), (1,))
        self.assertEqual(needless(script_of("a b", "pick a"), kind), ())
        self.assertEqual(needless(script_of("a b", "pick b a ; pick a b"), kind), (0,))
        self.assertEqual(needless(script_of("a b", "pick b a ; pick a b ; pick b a"), kind), (0, 1))
        self.assertEqual(needless(script_of("a b", "rename a c ; rename c d"), kind), ())

    def test_without_steps(self):
        self.assertEqual(needless(script_of("a b"), Kind(["a", "b"])), ())

    def test_another_kind(self):
        for text in ["", "has a"]:
            for columns in [["a"], ["b", "a"], ["a", "b", "c"]]:
                with self.assertRaises(Mismatch):
                    needless(script_of("a b", text), Kind(columns))


class SteadyAndCommuting(unittest.TestCase):
    """[29]."""

    def test_steady(self):
        kind = Kind(["a", "b"])
        for text in ["", "has a", "is a x", "alike a b", "stack ; rename a c ; rename b a ; rename c b ; end", "is a x ; is a y"]:
            self.assertTrue(steady(script_of("a b", text), kind), text)
        for text in ["rename a c ; rename b a ; rename c b ; pick a b", "pick b ; rename b a ; put b x", WALK]:
            self.assertFalse(steady(script_of("a b", text), kind), text)

    def test_steady_by_rules(self):
        self.assertFalse(steady(script_of("a b", WALK), Kind(["a", "b"])))
        self.assertTrue(steady(script_of("a b", WALK), Kind(["a", "b"], rules=[((), "a"), ((), "b")])))

    def test_commuting(self):
        kind = Kind(["a", "b"])
        p, q = script_of("a b", "has a"), script_of("a b", "is b x")
        swap = script_of("a b", "rename a c ; rename b a ; rename c b ; pick a b")
        self.assertTrue(commuting(p, q, kind))
        self.assertTrue(commuting(p, p, kind))
        self.assertTrue(commuting(swap, script_of("a b", "alike a b"), kind))
        self.assertFalse(commuting(p, swap, kind))
        self.assertTrue(commuting(p, swap, Kind(["a", "b"], ["a", "b"])))
        self.assertTrue(commuting(script_of("a b"), swap, kind))

    def test_wrong_columns(self):
        kind, p, q = Kind(["a", "b"]), script_of("a b"), script_of("a b", "pick b a")
        for wrong in [q, script_of("a b", "pick a"), script_of("a b", "rename a c"), script_of("a b", "put c x")]:
            with self.assertRaises(Mismatch):
                steady(wrong, kind)
            for pair in [(p, wrong), (wrong, p), (wrong, wrong)]:
                with self.assertRaises(Mismatch):
                    commuting(*pair, kind)
        back = script_of("b a", "pick a b")
        for pair in [(q, back), (back, q), (back, p), (p, back), (script_of("b a"), p), (p, script_of("b a"))]:
            with self.assertRaises(Mismatch):
                commuting(*pair, kind)
        for columns in [["b", "a"], ["a"], ["a", "b", "c"]]:
            with self.assertRaises(Mismatch):
                steady(p, Kind(columns))
            with self.assertRaises(Mismatch):
                commuting(p, p, Kind(columns))


class Never(unittest.TestCase):
    """[31]."""

    def test_never(self):
        kind = Kind(["a", "b"])
        for text in ["is a x ; is a y", "put c x ; is c y", "is a x ; is b y ; alike a b", "pivot by a b to h ; put c x ; alike c h ; is h y", "is a x ; melt a b as n v ; is n a ; is v y"]:
            self.assertTrue(never(script_of("a b", text), kind), text)
        for text in ["", "is a x", "alike a b", "is a x ; stack ; is a y ; end", "pivot by a b to h ; has h", "put c x ; is c x"]:
            self.assertFalse(never(script_of("a b", text), kind), text)

    def test_never_by_the_rules_of_the_kind(self):
        p = script_of("a b", "join ; rename a c ; rename b d ; end ; is a x ; is c y")
        self.assertFalse(never(p, Kind(["a", "b"])))
        self.assertTrue(never(p, Kind(["a", "b"], rules=[((), "a")])))
        self.assertFalse(never(p, Kind(["a", "b"], rules=[(("b",), "a")])))
        q = script_of("a b", "join b ; rename a c ; end ; is a x ; is c y")
        self.assertFalse(never(q, Kind(["a", "b"])))
        self.assertTrue(never(q, Kind(["a", "b"], rules=[(("b",), "a")])))
        self.assertTrue(never(script_of("a b", "is a x ; join ; rename a c ; rename b d ; end ; is c y"), Kind(["a", "b"])))

    def test_another_kind(self):
        for text in ["", "is a x ; is a y"]:
            with self.assertRaises(Mismatch):
                never(script_of("a b", text), Kind(["b", "a"]))


class WrongColumns(unittest.TestCase):
    """[27], [28]."""

    def test_two_scripts(self):
        kind = Kind(["a", "b"])
        p = script_of("a b")
        others = [script_of("b a", "pick a b"), script_of("a b", "pick b a"), script_of("a b", "pick a"), script_of("a", "put b x"),
                  script_of("a b", "put c x"), script_of("a b c", "pick a b"), script_of("a b", "is a x ; is a y ; pick b a")]
        for function in [within, same, lost]:
            for q in others:
                for pair in [(p, q), (q, p)]:
                    with self.assertRaises(Mismatch):
                        function(*pair, kind)
            for columns in [["a"], ["b", "a"], ["a", "b", "c"], ["a", "c"]]:
                with self.assertRaises(Mismatch):
                    function(p, p, Kind(columns))
                with self.assertRaises(Mismatch):
                    function(script_of("a b", "is a x ; is a y"), p, Kind(columns))

    def test_other_names_in_between(self):
        self.assertTrue(same(script_of("a b", "rename a c ; rename c a"), Script(("a", "b")), Kind(["a", "b"])))


if __name__ == "__main__":
    unittest.main()
