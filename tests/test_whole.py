"""[1], [2], [3]: what holds for the whole program: nothing is changed, all is the same again, nothing is iterated over."""

import unittest

from meltback.deciding import commuting, doubled, lost, needless, never, same, steady, within
from meltback.desk import Desk
from meltback.errors import InvalidCommand, Mismatch, TableError
from meltback.kinds import Kind
from meltback.scripts import Script
from meltback.shapes import shapes, tells, weight
from meltback.tables import Table
from meltback.ways import kept, no_way, no_way_holds, takes_back, way
from reading import kind_of, script_of

KIND = kind_of("id n v ; always id ; rule id n : v")
PIVOT = script_of("id n v", "pivot id by n v to h k ; stack ; has h ; end")
ALL = script_of("id n v")
CALLS = [
    lambda: within(PIVOT, PIVOT, KIND),
    lambda: same(PIVOT, PIVOT, KIND),
    lambda: lost(ALL, ALL >> script_of("id n v", "has n"), KIND),
    lambda: needless(PIVOT, KIND),
    lambda: steady(ALL, KIND),
    lambda: commuting(ALL, ALL, KIND),
    lambda: doubled(PIVOT, 0, Kind(KIND.columns)),
    lambda: never(PIVOT, KIND),
    lambda: way(ALL, PIVOT, KIND),
    lambda: way(script_of("id n v", "put w x"), PIVOT, KIND),
    lambda: no_way(PIVOT, ALL, KIND),
    lambda: no_way_holds(PIVOT, ALL, KIND, no_way(PIVOT, ALL, KIND)),
    lambda: kept(PIVOT, KIND),
    lambda: takes_back(ALL, ALL, KIND),
]


class Again(unittest.TestCase):
    def test_2_the_same_call_returns_an_equal_result(self):
        first = [call() for call in CALLS]
        for call in reversed(CALLS):
            call()
        self.assertEqual([call() for call in CALLS], first)

    def test_2_kinds_of_results(self):
        for call, kind in zip(CALLS, [bool, bool, tuple, tuple, bool, bool, Table, bool, Script, Script, tuple, bool, tuple, bool]):
            self.assertIs(call().__class__, kind)

    def test_2_arguments_are_not_changed(self):
        before = [str(thing) for thing in (KIND, PIVOT, ALL)]
        for call in CALLS:
            call()
        self.assertEqual([str(thing) for thing in (KIND, PIVOT, ALL)], before)

    def test_2_an_error_changes_nothing(self):
        other = Kind(["a"])
        for function in [never, needless, steady, kept]:
            with self.assertRaises(Mismatch):
                function(PIVOT, other)
        self.assertEqual((str(PIVOT.ends), str(other)), ("('id', 'h', 'k')", "a"))

    def test_2_methods_that_return_nothing(self):
        desk = Desk()
        trial = desk.trial()
        self.assertIs(trial.__enter__(), desk)
        self.assertIsNone(trial.__exit__(None, None, None))

    def test_2_later_changes_to_an_argument(self):
        steps, columns, rules = list(PIVOT.steps), ["id", "n", "v"], [(["id", "n"], "v")]
        script, kind = Script(columns, steps), Kind(columns, ["id"], rules)
        answer = no_way(script, ALL, kind)
        steps.clear()
        columns.clear()
        rules[0][0].clear()
        self.assertEqual(no_way(script, ALL, kind), answer)
        commands = ["kind a b", "row x y"]
        desk = Desk()
        results = desk.several(commands)
        commands.clear()
        self.assertEqual((results, len(desk)), (("2", "1"), 2))


class NotIterable(unittest.TestCase):
    def test_2_objects(self):
        objects = [KIND, PIVOT, PIVOT[0], Table(["a"], [("x",)]), shapes(PIVOT, KIND)[0], Desk()]
        for one in objects:
            for action in [iter, list, tuple, set, lambda thing: [*thing], lambda thing: dict.fromkeys(thing)]:
                with self.assertRaises(TypeError):
                    action(one)


class Returned(unittest.TestCase):
    """[3]: what is returned may be beyond the limits, and may be passed on."""

    def test_ways(self):
        r = way(script_of("id n v", "put w x"), PIVOT, KIND)
        again = Script.read(r.columns, str(r).replace("\n", " ; ").replace(" ; ", "\n"))
        self.assertEqual(again, r)
        together = script_of("id n v", "put w x") >> r
        table = Table(KIND.columns, [("1", "h", "x"), ("1", "k", "y"), ("2", "h", None)])
        self.assertEqual(together(table), PIVOT(table))
        self.assertTrue(tells(together, table, ("1", "x", "y")))
        self.assertGreater(weight(together, KIND), 0)
        self.assertEqual(together.upto(1) >> r, together)
        self.assertEqual(sorted(set(together.texts) - {"a", "b"}), ["h", "k", "x"])

    def test_papers_and_tables(self):
        first, second, row, pairs = no_way(PIVOT, ALL, KIND)
        self.assertEqual(Table.read(str(first)), first)
        self.assertTrue(first in KIND and second in KIND and tells(ALL, first, row))
        table, row = lost(ALL, script_of("id n v", "has n"), KIND)
        self.assertTrue(table <= table | first)
        self.assertTrue(tells(ALL, table.mapped({text: "z" + text for text in table.texts}), tuple(cell and "z" + cell for cell in row)))


class Errors(unittest.TestCase):
    def test_5_errors_of_these_modules(self):
        self.assertEqual(InvalidCommand.__bases__, (TableError,))
        self.assertEqual(vars(InvalidCommand()), {})
        self.assertEqual(vars(Mismatch()), {})


if __name__ == "__main__":
    unittest.main()
