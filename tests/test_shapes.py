"""[4] and [22] to [26]: the shapes of scripts, what they tell, and the weights of scripts."""

import random
import unittest
from itertools import permutations, product

from choosing import NAMES, some_kind, some_script, some_table_of
from leading import led
from meltback.errors import Mismatch
from meltback.kinds import Kind
from meltback.scripts import Script
from meltback.shapes import Shape, shapes, tells, weight
from meltback.tables import Table
from values import NO_SEQUENCES, NO_STRINGS, OBJECTS

ABC = ["a", "b", "c"]
ALL = Kind(ABC, ABC)


def written(row, numbers, told):
    """The cells of a row, with numbers in the place of unknowns."""
    return tuple(cell if cell is None or cell in told else numbers.setdefault(cell, str(len(numbers))) for cell in row)


def plain(row, rows, told):
    """A row and the rows that it comes of, written in one way however its unknowns are called."""
    ways = []
    for order in permutations(rows):
        numbers = {}
        ways.append((written(row, numbers, told), [written(one, numbers, told) for one in order]))
    return min(ways, key=str)


class Shapes(unittest.TestCase):
    def has_shapes(self, text, kind, expected):
        """Whether the shapes are these: each a line of the row, then of the table's rows; a capital letter is an unknown."""
        script = Script.read(kind.columns, text)
        told = script.texts
        rows = [[tuple(None if cell == "-" else cell for cell in row.split(" ")) for row in line.split(" | ")] for line in expected]
        self.assertFalse({cell for row in rows for cell in row if str(cell).isupper()} & set(told))
        found = [plain(shape.row, shape.table.rows, told) for shape in shapes(script, kind)]
        wanted = [plain(row[0], row[1:], told) for row in rows]
        self.assertEqual(sorted(found, key=str), sorted(wanted, key=str), text)

    def test_24_nothing_done(self):
        self.has_shapes("", Kind(["a"]), ["A | A"])
        self.has_shapes("", Kind(["a"], ["a"]), ["A | A"])
        self.has_shapes("", Kind(["a", "b"]), ["A B | A B", "A - | A -", "- B | - B"])
        self.has_shapes("", Kind(["a", "b"], ["b"]), ["A B | A B", "- B | - B"])
        self.has_shapes("", Kind(ABC, ["a"]), ["A B C | A B C", "A - C | A - C", "A B - | A B -", "A - - | A - -"])
        self.has_shapes("", Kind(ABC, ABC, [((), "a")]), ["A B C | A B C"])

    def test_24_pick(self):
        self.has_shapes("pick c a", ALL, ["C A | A B C"])
        self.has_shapes("pick a", Kind(["a", "b"]), ["A | A B", "A | A -"])
        self.has_shapes("pick b\nput a x", Kind(["a", "b"], ["a"]), ["B x | A B"])

    def test_24_rename_and_put(self):
        self.has_shapes("rename a d", Kind(["a", "b"]), ["A B | A B", "A - | A -", "- B | - B"])
        self.has_shapes("put d x", Kind(["a", "b"]), ["A B x | A B", "A - x | A -", "- B x | - B"])

    def test_24_steps_that_keep_rows(self):
        loose = Kind(["a", "b"])
        self.has_shapes("has a", loose, ["A B | A B", "A - | A -"])
        self.has_shapes("has a\nhas b", loose, ["A B | A B"])
        self.has_shapes("is a x", loose, ["x B | x B", "x - | x -"])
        self.has_shapes("is a x\nis a x", loose, ["x B | x B", "x - | x -"])
        self.has_shapes("is a x\nis a y", loose, [])
        self.has_shapes("alike a b", loose, ["A A | A A"])
        self.has_shapes("alike a b\nis b x", loose, ["x x | x x"])
        self.has_shapes("is a x\nalike b a", loose, ["x x | x x"])
        self.has_shapes("is a x\nis b y\nalike a b", loose, [])
        self.has_shapes("alike a b\nalike b a\nalike b c", ALL, ["A A A | A A A"])

    def test_24_melt(self):
        self.has_shapes("melt a b as n v", ALL, ["C a A | A B C", "C b B | A B C"])
        self.has_shapes("melt b as n v", Kind(["a", "b"]), ["A b B | A B", "- b B | - B"])
        self.has_shapes("melt a b as n v\nis n a", Kind(["a", "b"]), ["a A | A B", "a A | A -"])
        self.has_shapes("melt a b as n v\nalike n v", Kind(["a", "b"], ["a"]), ["a a | a B", "a a | a -", "b b | A b"])
        self.has_shapes("melt a b as n v\nis n c", Kind(["a", "b"]), [])

    def test_24_pivot(self):
        all_there = Kind(["i", "n", "v"], ["i", "n", "v"])
        single = ["I A - | I x A", "I - A | I y A"]
        self.has_shapes("pivot i by n v to x", all_there, ["I A | I x A"])
        self.has_shapes("pivot i by n v to x y", all_there, [*single, "I A B | I x A | I y B"])
        self.has_shapes("pivot by n v to x y", all_there, ["A - | I x A", "- A | I y A", "A B | I x A | J y B"])
        self.has_shapes("is n y\npivot i by n v to x y", all_there, ["I - A | I y A"])
        self.has_shapes("is i q\npivot i by n v to x", Kind(["i", "n", "v"]), ["q A | q x A"])
        self.has_shapes("pivot i by n v to x", Kind(["i", "n", "v"]), ["I A | I x A"])

    def test_24_pivot_by_several_to_several(self):
        kind = Kind(["i", "j", "n", "v"], ["i", "j", "n", "v"])
        single = ["I J A - - | I J x A", "I J - A - | I J y A", "I J - - A | I J z A"]
        pairs = ["I J A B - | I J x A | I J y B", "I J A - B | I J x A | I J z B", "I J - A B | I J y A | I J z B"]
        all_heads = ["I J A B C | I J x A | I J y B | I J z C"]
        self.has_shapes("pivot i j by n v to x y z", kind, [*single, *pairs, *all_heads])
        three = ["A B C | I J x A | K L y B | M N z C", "A B - | I J x A | K L y B", "A - C | I J x A | M N z C", "- B C | K L y B | M N z C"]
        self.has_shapes("pivot by n v to x y z", kind, [*three, "A - - | I J x A", "- A - | I J y A", "- - A | I J z A"])

    def test_24_pivot_with_rules(self):
        ruled = Kind(["i", "n", "v"], ["i", "n", "v"], [(("i",), "v")])
        self.has_shapes("pivot i by n v to x y", ruled, ["I A - | I x A", "I - A | I y A", "I A A | I x A | I y A"])
        self.has_shapes("pivot i by n v to x y", ruled & Kind(["i", "n", "v"], (), [(("i",), "n")]), ["I A - | I x A", "I - A | I y A"])

    def test_24_pivot_behind_melt(self):
        rows = ["I A - | I A B", "I - B | I A B", "I A B | I A C | I D B"]
        self.has_shapes("melt a b as n v\npivot i by n v to a b", Kind(["i", "a", "b"], ["i", "a", "b"]), rows)
        ruled = Kind(["i", "a", "b"], ["i", "a", "b"], [(("i",), "a"), (("i",), "b")])
        rows = ["I A - | I A B", "I - B | I A B", "I A B | I A B"]
        self.has_shapes("melt a b as n v\npivot i by n v to a b", ruled, rows)

    def test_24_join(self):
        both = Kind(["a", "b"], ["a", "b"])
        self.has_shapes("join a\nrename b c\nend", both, ["A B - | A B", "A B C | A B | A C"])
        self.has_shapes("join\nrename a c\nrename b d\nend", both, ["A B - - | A B", "A B C D | A B | C D"])
        self.has_shapes("join a\nrename b c\nend", Kind(["a", "b"], ["a", "b"], [(("a",), "b")]), ["A B - | A B", "A B B | A B"])
        self.has_shapes("join b\nrename b c\nrename a b\nrename c d\nend", both, ["A B - | A B", "A B D | A B | B D"])
        self.has_shapes("join a\nis b x\nput c y\npick c a\nend", both, ["A B - | A B", "A B y | A B | A x"])
        loose = Kind(["a", "b"], ["b"])
        rows = ["A B - | A B", "- B - | - B", "A B C | A B | A C"]
        self.has_shapes("join a\nrename b c\nend", loose, rows)

    def test_24_joins_one_behind_another(self):
        only = Kind(["a"])
        self.has_shapes("join\nrename a b\nend\njoin\nrename a c\npick c\nend", only, [
            "A - - | A", "A B - | A | B", "A - C | A | C", "A - C | A | C | D", "A B C | A | B | C", "A B C | A | B | C | D",
        ])
        self.has_shapes("join\njoin\nrename a b\nend\nrename a c\nend", only, ["A - - | A", "A C - | A | C", "A C B | A | C | B"])

    def test_24_stack(self):
        both = Kind(["a", "b"], ["a", "b"])
        self.has_shapes("stack\nend", both, ["A B | A B", "A B | A B"])
        self.has_shapes("stack\npick b\nput a x\nend", both, ["A B | A B", "x B | A B"])
        self.has_shapes("stack\nrename a c\nrename b a\nrename c b\nend", both, ["A B | A B", "B A | A B"])
        self.has_shapes("stack\nis a x\nstack\nis b y\nend\nend", both, ["A B | A B", "x B | x B", "x y | x y"])

    def test_24_rules_again_and_again(self):
        kind = Kind(["a", "b", "c", "d"], ["a", "b", "c", "d"], [(("b",), "c"), (("c",), "d"), (("a",), "b")])
        self.has_shapes("join a\nrename d e\npick a e\nend", kind, ["A B C D - | A B C D", "A B C D D | A B C D"])
        self.has_shapes("is d x\njoin a\nrename d e\npick a e\nend", kind, ["A B C x - | A B C x", "A B C x x | A B C x"])

    def test_24_rules_that_told_texts_break(self):
        kind = Kind(["a", "b"], ["a", "b"], [((), "b")])
        self.has_shapes("join\nis b y\nput c z\npick c\nend", kind, ["A B - | A B", "A y z | A y | B y"])
        self.has_shapes("is b x\nput d x\njoin\nis b x\nput c z\npick c\nend", kind, ["A x x - | A x", "A x x z | A x | B x"])
        self.has_shapes("stack\nis b y\nend", kind, ["A B | A B", "A y | A y"])

    def test_24_told_texts_that_are_unlike_make_no_shape(self):
        kind = Kind(["i", "n", "v"], ["i", "n", "v"], [((), "v")])
        joined = "join\nis v y\nrename v w\nrename i j\npick j w\nend"
        self.has_shapes(joined, kind, ["I A B - - | I A B", "I A y J y | I A y | J B y"])
        self.has_shapes("stack\nis v x\nend\n" + joined, kind, [
            "I A B - - | I A B", "I A x - - | I A x", "I A y J y | I A y | J B y",
        ])

    def test_22_unknowns_are_not_told(self):
        kind = Kind(["a", "b"], ["a", "b"])
        self.has_shapes("is a u0\nput c u1", kind, ["u0 B u1 | u0 B"])
        self.has_shapes("put c u1\nput d u0", kind, ["A B u1 u0 | A B"])
        self.has_shapes("stack\nis b u2\nis a u0\nend", kind, ["A B | A B", "u0 u2 | u0 u2"])
        for told in range(4):
            text = "join\nrename a c\nrename b d\nend\nput n v" + "".join(f"\nput n{letter} u{at}" for at, letter in enumerate("abcd"[:told]))
            rest = "".join(f" u{at}" for at in range(told))
            self.has_shapes(text, kind, [f"A B - - v{rest} | A B", f"A B C D v{rest} | A B | C D"])

    def test_24_rules_pass_by_cells_that_lack(self):
        kind = Kind(["a", "b"], ["a"], [(("a",), "b")])
        rows = ["A B - | A B", "A - - | A -", "A B B | A B", "A - C | A C"]
        self.has_shapes("join a\nhas b\nrename b c\nend", kind, rows)
        kind = Kind(["a", "b"], ["b"], [(("a",), "b")])
        rows = ["A B - | A B", "- B - | - B", "A B C | A B | - C", "- B C | - B | - C"]
        self.has_shapes("join\nrename b c\npick c\nend", kind, [*rows, "A B C | A B | D C", "- B C | - B | D C"])


class Promised(unittest.TestCase):
    def test_22_23_26_shapes_lead_to_all_rows(self):
        chosen = random.Random(23)
        rows = 0
        for number in range(900):
            columns = chosen.sample(NAMES, chosen.randint(1, 4))
            script, kind = some_script(chosen, columns, 5), some_kind(chosen, columns, 3)
            if weight(script, kind) > 150:
                continue
            found = shapes(script, kind)
            self.assertLessEqual(len(found), weight(script, kind))
            self.all_hold(script, kind, found)
            for table in [some_table_of(chosen, kind, 4) for turn in range(3)]:
                for row in script(table).rows:
                    self.one_leads(script, found, table, row)
                    rows += 1
        self.assertGreater(rows, 1000)

    def all_hold(self, script, kind, found):
        for shape in found:
            self.assertIn(shape.table, kind, (str(script), str(kind)))
            self.assertEqual(len(shape.row), len(script.ends))
            self.assertIs(tells(script, shape.table, shape.row), True, (str(script), str(kind)))

    def one_leads(self, script, found, table, row):
        ways = [(shape, led(shape, script.texts, table, row)) for shape in found]
        ways = [(shape, texts) for shape, texts in ways if texts is not None]
        self.assertNotEqual(ways, [], (str(script), str(table), row))
        for shape, texts in ways:
            mapped, its = shape.mapped(texts)
            self.assertTrue(mapped <= table and its == row)

    def test_4_shapes_tell_whether_a_script_tells_no_more(self):
        chosen = random.Random(4)
        seen = []
        for number in range(700):
            columns = chosen.sample(NAMES, chosen.randint(1, 3))
            kind = some_kind(chosen, columns)
            one, other = some_script(chosen, columns, 3), some_script(chosen, columns, 2)
            if one.ends != other.ends or weight(one, kind) > 100:
                continue
            within = all(tells(other, *self.apart(shape, other)) for shape in shapes(one, kind))
            seen.append(within)
            for turn in range(4):
                table = some_table_of(chosen, kind, 4)
                self.assertTrue(not within or one(table) <= other(table), (str(one), str(other), str(table)))
        self.assertGreater(min(seen.count(True), seen.count(False)), 20)

    def apart(self, shape, other):
        """The table and the row of a shape, with unknowns that another script does not tell."""
        unknowns = [text for text in shape.table.texts if text not in shape.told]
        return shape.mapped({text: f"w{at}" for at, text in enumerate(unknowns)})

    def test_22_attributes(self):
        shape, = shapes(Script.read(ABC, "pick b a"), ALL)
        self.assertIsInstance(shape, Shape)
        self.assertIsInstance(shape.table, Table)
        self.assertEqual((shape.table.columns, len(shape.table), type(shape.row), len(shape.row)), (("a", "b", "c"), 1, tuple, 2))
        self.assertEqual(shape.row, (shape.table.rows[0][1], shape.table.rows[0][0]))

    def test_22_mapped(self):
        shape, = shapes(Script.read(["a", "b"], "is a x\nput c y"), Kind(["a", "b"], ["a", "b"]))
        unknown = shape.row[1]
        self.assertEqual((shape.row, shape.table.rows), (("x", unknown, "y"), (("x", unknown),)))
        table, row = shape.mapped({unknown: "z"})
        self.assertEqual((table, row), (Table(["a", "b"], [("x", "z")]), ("x", "z", "y")))
        self.assertEqual(shape.mapped(texts={unknown: "x"}), (Table(["a", "b"], [("x", "x")]), ("x", "x", "y")))
        self.assertEqual(shape.mapped({}), (shape.table, shape.row))
        self.assertIs(type(shape.mapped({})), tuple)
        self.assertEqual(shape.mapped({"x": "z", "y": "z"}), (shape.table, shape.row))

    def test_22_mapped_unknowns_become_alike(self):
        found = shapes(Script.read(["a", "b"], "join\nrename a c\nrename b d\nend"), Kind(["a", "b"], ["a", "b"]))
        shape = [one for one in found if len(one.table) == 2][0]
        a, b, c, d = shape.row
        self.assertEqual(shape.mapped({a: "x", b: "y", c: "x", d: "y"}), (Table(["a", "b"], [("x", "y")]), ("x", "y", "x", "y")))
        self.assertEqual(shape.mapped({a: b, b: a})[1], (b, a, c, d))
        self.assertEqual(len(shape.table), 2)

    def test_23_never_told(self):
        self.assertEqual(shapes(Script.read(["a"], "is a x\nis a y"), Kind(["a"])), ())
        self.assertEqual(shapes(script=Script.read(["a"], "is a x\nis a y"), kind=Kind(["a"])), ())

    def test_2_same_again(self):
        script, kind = Script.read(ABC, "melt b c as n v\npivot a by n v to b c"), Kind(ABC, ["a"])
        once, again = [[(str(shape.table), shape.row) for shape in shapes(script, kind)] for turn in range(2)]
        self.assertEqual(once, again)
        self.assertIs(type(shapes(script, kind)), tuple)

    def test_2_not_iterable(self):
        for use in (iter, list, tuple):
            with self.assertRaises(TypeError):
                use(shapes(Script(["a"]), Kind(["a"]))[0])

    def test_23_26_mismatch(self):
        for columns in (["a"], ["a", "b"], ["a", "c", "b"], ["a", "b", "c", "d"], ["a", "b", "d"]):
            for use in (shapes, weight):
                with self.assertRaises(Mismatch):
                    use(Script(ABC), Kind(columns))
                with self.assertRaises(Mismatch):
                    use(Script.read(ABC, "has a\nis a x\nis a y"), Kind(columns))


class Tells(unittest.TestCase):
    script = Script.read(["a", "b"], "has a\nput c x")
    table = Table(["a", "b"], [("1", "2"), ("3", None), (None, "4")])

    def test_25_tells(self):
        for row in [("1", "2", "x"), ["1", None, "x"], (None, None, "x"), ("3", None, "x"), ("3", None, None)]:
            self.assertIs(tells(self.script, self.table, row), True)
        for row in [("3", "2", "x"), (None, "4", None), (None, None, None), ("1", "2"), ("1", "2", "x", None), (None, None, "y")]:
            self.assertIs(tells(self.script, self.table, row), False)
        self.assertIs(tells(script=self.script, table=self.table, row=["3", None, "x"]), True)

    def test_25_any_value(self):
        for value in NO_SEQUENCES + NO_STRINGS + OBJECTS + [self.table, self.script, [["1", "2", "x"]], ("1", ("2",), "x"), ["1", True, "x"]]:
            self.assertIs(tells(self.script, self.table, value), False)
            self.assertIs(tells(Script(["a"]), Table(["a"]), value), False)

    def test_25_mismatch(self):
        for columns in (["a"], ["b", "a"], ["a", "c"], ["a", "b", "c"]):
            for row in (("1", "2", "x"), None, 5):
                with self.assertRaises(Mismatch):
                    tells(self.script, Table(columns), row)


class Weights(unittest.TestCase):
    def weighs(self, text, kind, expected):
        self.assertEqual(weight(Script.read(kind.columns, text), kind), expected, text)

    def test_26_at_first(self):
        for columns, always, expected in [
            (["a"], [], 1), (["a"], ["a"], 1), (["a", "b"], [], 3), (["a", "b"], ["a"], 2), (["a", "b"], ["a", "b"], 1), (ABC, [], 7),
            (ABC, ["b"], 4), (ABC, ["b", "a"], 2), (ABC, ABC, 1), (["a", "b", "c", "d", "e"], ["e"], 16), (["a", "b", "c", "d", "e"], [], 31),
        ]:
            self.weighs("", Kind(columns, always), expected)
            self.assertEqual(len(shapes(Script(columns), Kind(columns, always))), expected)
        self.weighs("", Kind(ABC, ["b"], [(("b",), "a")]), 4)

    def test_26_steps_that_weigh_nothing(self):
        for text in ["pick c a", "rename a d", "has b", "is b x", "put d x", "alike a c", "has a\nis a x\nalike a b"]:
            self.weighs(text, Kind(ABC, ["b"]), 4)

    def test_26_melt(self):
        self.weighs("melt a as n v", Kind(ABC, ["b"]), 4)
        self.weighs("melt c a as n v", Kind(ABC, ["b"]), 8)
        self.weighs("melt a b c as n v", Kind(ABC), 21)
        self.weighs("melt a b as n v\nmelt c n v as a b", Kind(ABC), 42)

    def test_26_pivot(self):
        self.weighs("pivot a by b c to h", Kind(ABC, ["b"]), 4)
        self.weighs("pivot a by b c to h k", Kind(ABC, ["b"]), 24)
        self.weighs("pivot by b c to h k l", Kind(ABC, ["a", "b"]), 26)
        self.weighs("pivot by b c to h k l", Kind(ABC, ABC), 7)
        self.weighs("melt b c as n v\npivot a by n v to b c", Kind(ABC, ["a"]), 80)

    def test_26_join(self):
        self.weighs("join a\npick a\nend", Kind(ABC, ["b"]), 4 + 4 * 4)
        self.weighs("join\nmelt a b as n v\npick n\nend", Kind(ABC, ["b"]), 4 + 4 * 8)
        self.weighs("join a\npick a\nend\njoin a\npick a\nend", Kind(ABC, ["b", "a"]), 6 + 6 * 6)
        self.weighs("melt a b as n v\njoin n\njoin\npick n\nrename n m\nend\npick n m\nend", Kind(ABC, ABC), 2 + 2 * (2 + 2 * 2))

    def test_26_stack(self):
        self.weighs("stack\nend", Kind(ABC, ["b"]), 8)
        self.weighs("stack\nmelt a b as n v\nrename c a\nrename n b\nrename v c\nend", Kind(ABC, ["b"]), 12)
        self.weighs("stack\nstack\nend\nend", Kind(ABC, ABC), 3)
        self.weighs("stack\njoin a\npick a\nend\nend\nstack\nend", Kind(ABC, ["a", "b"]), (2 + 6) * 2)

    def test_26_by_name(self):
        self.assertEqual(weight(kind=Kind(ABC), script=Script(ABC)), 7)


if __name__ == "__main__":
    unittest.main()
