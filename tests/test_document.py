"""The examples of the document, as they stand there."""

import unittest

from meltback.deciding import lost, within
from meltback.kinds import Kind
from meltback.scripts import Script
from meltback.tables import Table
from meltback.ways import kept, no_way, no_way_holds, way

MELT = Script.read(["id", "may", "june"], "melt may june as n v")
LOOSE = Kind(["id", "may", "june"], always=["id", "may", "june"])
KIND = Kind(["id", "may", "june"], always=["id"], rules=[(("id",), "may"), (("id",), "june")])


class Examples(unittest.TestCase):
    def test_overview(self):
        self.assertNotEqual(str(way(MELT, Script.read(["id", "may", "june"], "has may\npick id may"), KIND)), "")
        self.assertEqual(kept(MELT, LOOSE), (("id", "june"), ("id", "may")))

    def test_tables(self):
        table = Table(["a", "b"], [("x", None), ["x", "1"], (None, "2"), (None, None)])
        found = table.rows, ("x", None) in table, str(table & Table(["a", "b"], [("x", "2"), ("y", "1")]))
        self.assertEqual(found, (((None, "2"), ("x", "1")), True, "a b\n- 1\n- 2\nx -"))

    def test_scripts(self):
        script = Script.read(["id", "n", "v"], "pivot id by n v to may june\nhas may")
        rows = [("1", "may", "x"), ("1", "may", "y"), ("2", "june", "x"), ("1", "july", "z")]
        self.assertEqual(str(script(Table(["id", "n", "v"], rows))), "id may june\n1 x -\n1 y -")
        self.assertEqual((script.texts, script.ends), (("june", "may"), ("id", "may", "june")))

    def test_papers(self):
        columns = ["id", "may", "june"]
        both = Script(columns)
        found = no_way(MELT, both, LOOSE)
        answers = no_way_holds(MELT, both, LOOSE, found), no_way_holds(MELT, both, KIND, found), found[2] in both(found[0])
        self.assertEqual(answers, (True, False, True))
        self.assertEqual(len(lost(both, Script.read(columns, "has june"), KIND)[0]), 1)
        self.assertFalse(within(both, Script.read(columns, "has june"), KIND))


if __name__ == "__main__":
    unittest.main()
