"""[15], [16] and [18]: scripts, what is wrong with them, and what is asked of them."""

import random
import unittest

from choosing import NAMES, TEXTS, some_script, some_table
from meltback.errors import InvalidScript, Mismatch, NoStep
from meltback.kinds import Kind
from meltback.scripts import Script
from meltback.steps import Alike, Has, Is, Join, Melt, Pick, Pivot, Put, Rename, Stack
from meltback.tables import Table
from values import NO_LISTS_OF_NAMES, NO_LISTS_OF_STEPS, OBJECTS

ABC = ["a", "b", "c"]
STEPS = [Has("a"), Rename("a", "d"), Put("a", "x"), Pick(["a", "d"])]
SCRIPT = Script(ABC, STEPS)

# Steps that cannot be done with the columns a, b and c.
NO_COLUMN = [
    Pick(["z"]), Pick(["a", "z"]), Rename("z", "d"), Has("z"), Is("z", "x"), Alike("a", "z"), Alike("z", "a"), Alike("a", "a"),
    Melt(["z"], "n", "v"), Melt(["a", "z"], "n", "v"), Pivot(["z"], "a", "b", ["h"]), Pivot([], "z", "b", ["h"]),
    Pivot([], "a", "z", ["h"]), Pivot(["a"], "a", "b", ["h"]), Pivot(["a"], "b", "a", ["h"]), Pivot([], "a", "a", ["h"]),
    Join(["z"], []), Join(["a", "z"], [Put("z", "x")]),
]
NO_STEPS = [
    Join(["a"], [Has("z")]), Join([], [Put("a", "x")]), Join(["a"], [Pick(["b"]), Rename("b", "d")]), Join(["a"], [Stack([Has("z")])]),
    Stack([Has("z")]), Stack([Rename("a", "b")]), Stack([Pick(["a", "b"])]), Stack([Put("d", "x")]), Stack([Rename("a", "d")]),
    Stack([Join(["z"], [])]), Stack([Stack([Alike("a", "a")])]), Join(["a", "b"], [Pick(["b"])]),
    Join(["a"], [Join([], [Pick(["z"])]), Pick(["a"])]), Join(["a"], [Rename("a", "d")]),
]
NO_NEW = [
    Rename("a", "b"), Put("a", "x"), Put("c", "x"), Melt(["a"], "b", "v"), Melt(["a"], "n", "b"), Melt(["a"], "n", "n"),
    Melt(["a", "b", "c"], "n", "n"), Melt(["a", "b"], "c", "a"), Pivot(["a"], "b", "c", ["a"]), Pivot(["a"], "b", "c", ["h", "a"]),
    Join(["a"], []), Join([], []), Join(["a"], [Put("d", "x")]), Join([], [Pick(["b"])]), Join(["a", "b"], []),
]
# Steps that can be done with them, and the columns behind.
RIGHT = [
    (Pick(["c", "a"]), "ca"), (Rename("b", "d"), "adc"), (Rename("a", "a"), "abc"), (Has("c"), "abc"), (Is("c", "x"), "abc"),
    (Put("d", "x"), "abcd"), (Alike("c", "a"), "abc"), (Melt(["a", "b"], "a", "b"), "cab"), (Melt(["b"], "n", "v"), "acnv"),
    (Melt(["c", "b", "a"], "b", "a"), "ba"), (Pivot(["c"], "a", "b", ["a", "b"]), "cab"), (Pivot([], "c", "a", ["h", "c"]), "hc"),
    (Join(["a", "b", "c"], []), "abc"), (Join(["a"], [Pick(["a"])]), "abc"), (Join(["b"], [Rename("a", "d"), Rename("c", "e")]), "abcde"),
    (Join([], [Pick(["b"]), Rename("b", "d")]), "abcd"), (Join(["a"], [Pick(["b", "a"]), Rename("b", "d")]), "abcd"),
    (Stack([]), "abc"), (Stack([Pick(["c", "b", "a"])]), "abc"), (Stack([Rename("a", "d"), Rename("b", "a"), Rename("d", "b")]), "abc"),
    (Stack([Pick(["a"]), Put("c", "x"), Put("b", "y")]), "abc"),
]


class Made(unittest.TestCase):
    def raises(self, at, word, *passed):
        with self.assertRaises(InvalidScript) as caught:
            Script(*passed)
        self.assertEqual((caught.exception.at, caught.exception.word), (at, word), passed)

    def test_15_columns_behind_each_step(self):
        for step, ends in RIGHT:
            self.assertEqual(Script(ABC, [step]).ends, tuple(ends), str(step))
            self.assertEqual(Script(ABC, [step]).columns, ("a", "b", "c"))

    def test_15_without_steps(self):
        for script in (Script(["a"]), Script(("a",), []), Script(["a"], ())):
            self.assertEqual((script.columns, script.steps, script.ends, len(script), str(script)), (("a",), (), ("a",), 0, ""))

    def test_15_by_name(self):
        self.assertEqual(Script(steps=STEPS, columns=ABC), SCRIPT)

    def test_15_columns(self):
        for columns in NO_LISTS_OF_NAMES + [[], ()]:
            self.raises(-1, "columns", columns)
            self.raises(-1, "columns", columns, [Has("z")])
            self.raises(-1, "columns", columns, None)

    def test_15_steps_that_are_none(self):
        for steps in NO_LISTS_OF_STEPS:
            self.raises(-1, "steps", ["a"], steps)
        for step in OBJECTS:
            if not isinstance(step, (Has, Join)):
                self.raises(-1, "steps", ["a"], [Has("z"), step])

    def test_15_column(self):
        for step in NO_COLUMN:
            self.raises(0, "column", ABC, [step])
            self.raises(1, "column", ABC, [Has("a"), step])

    def test_15_steps(self):
        for step in NO_STEPS:
            self.raises(0, "steps", ABC, [step])
            self.raises(2, "steps", ABC, (Has("a"), Has("b"), step))

    def test_15_new(self):
        for step in NO_NEW:
            self.raises(0, "new", ABC, [step])
            self.raises(1, "new", ABC, [Pick(["c", "b", "a"]), step])

    def test_15_the_columns_that_there_are_then(self):
        self.raises(1, "column", ABC, [Rename("a", "d"), Has("a")])
        self.raises(1, "column", ABC, [Melt(["a"], "n", "v"), Has("a")])
        self.raises(1, "column", ABC, [Pivot(["a"], "b", "c", ["h"]), Has("b")])
        self.raises(2, "column", ABC, [Pick(["a"]), Put("d", "x"), Has("b")])
        self.raises(1, "new", ABC, [Put("d", "x"), Put("d", "y")])
        self.raises(1, "new", ABC, [Join([], [Rename("a", "d"), Pick(["d"])]), Rename("a", "d")])
        self.raises(1, "steps", ABC, [Pick(["a"]), Stack([Has("b")])])

    def test_15_the_first_wrong_step_is_told(self):
        for first, word in [(Has("z"), "column"), (Stack([Has("z")]), "steps"), (Put("a", "x"), "new")]:
            for other in [Has("y"), Stack([Has("y")]), Put("b", "x")]:
                self.raises(0, word, ABC, [first, other])
                self.raises(1, word, ABC, [Has("a"), first, other])

    def test_15_the_first_word_is_told(self):
        for step in [
            Rename("z", "a"), Melt(["z"], "a", "a"), Alike("z", "z"), Pivot(["z"], "a", "b", ["z"]), Pivot(["a"], "a", "b", ["a"]),
            Join(["z"], [Has("y")]), Join(["z"], []), Pivot(["a"], "b", "b", ["a"]),
        ]:
            self.raises(0, "column", ABC, [step])
        self.raises(0, "steps", ABC, [Join(["a"], [Pick(["b"])])])
        self.raises(0, "steps", ABC, [Join(["a"], [Has("z")])])

    def test_2_later_changes_have_no_effect(self):
        columns, names, within = ["a", "b"], ["a"], [Has("a")]
        steps = [Pick(names), Stack(within)]
        script = Script(columns, steps)
        text = str(script)
        self.assertEqual((columns, steps), (["a", "b"], [Pick(["a"]), Stack([Has("a")])]))
        columns.append("c")
        names[0] = "b"
        within.append(Has("z"))
        steps.clear()
        self.assertEqual((script.columns, script.ends, len(script), str(script)), (("a", "b"), ("a",), 2, text))

    def test_2_tuples(self):
        for value in (SCRIPT.columns, SCRIPT.steps, SCRIPT.ends, SCRIPT.texts, Script(ABC).ends, Script(ABC, [Stack([])]).ends):
            self.assertIs(type(value), tuple)
        for step, ends in RIGHT:
            self.assertIs(type(Script(ABC, [step]).ends), tuple)


class Asked(unittest.TestCase):
    def no_step(self, at, use):
        with self.assertRaises(NoStep) as caught:
            use(at)
        self.assertEqual(caught.exception.at, at)

    def test_16_len_and_index(self):
        self.assertEqual(len(SCRIPT), 4)
        self.assertEqual([SCRIPT[at] for at in range(4)], STEPS)
        self.assertEqual(SCRIPT.steps, tuple(STEPS))
        for at in (-1, -4, 4, 5, 10**20):
            self.no_step(at, lambda number: SCRIPT[number])
        self.no_step(0, lambda number: Script(["a"])[number])

    def test_16_called(self):
        table = Table(ABC, [("1", "x", None), (None, "y", "z")])
        self.assertEqual(SCRIPT(table), Table(["a", "d"], [("x", "1")]))
        self.assertEqual(SCRIPT(table=table), SCRIPT(table))
        self.assertEqual(Script(ABC)(table), table)

    def test_16_called_with_other_columns(self):
        for columns in (["a"], ["a", "b"], ["a", "b", "d"], ["a", "c", "b"], ["a", "b", "c", "d"]):
            for script in (SCRIPT, Script(ABC)):
                with self.assertRaises(Mismatch):
                    script(Table(columns))

    def test_16_behind_one_another(self):
        first, last = Script(ABC, STEPS[:3]), Script(["d", "b", "c", "a"], STEPS[3:])
        both = first >> last
        self.assertEqual((both, both.columns, both.ends), (SCRIPT, ("a", "b", "c"), ("a", "d")))
        self.assertEqual(Script(ABC) >> SCRIPT, SCRIPT)
        self.assertEqual(SCRIPT >> Script(["a", "d"]), SCRIPT)
        self.assertEqual(str(Script(["a"]) >> Script(["a"])), "")
        self.assertEqual((str(first), str(last)), ("has a\nrename a d\nput a x", "pick a d"))

    def test_16_behind_one_another_mismatch(self):
        for columns in (ABC, ["d", "a"], ["a"], ["a", "d", "b"]):
            with self.assertRaises(Mismatch):
                SCRIPT >> Script(columns)
        with self.assertRaises(Mismatch):
            Script(ABC) >> Script(["a", "c", "b"])

    def test_2_in_place_operators_change_nothing(self):
        script = first = Script(ABC, [Has("a")])
        script >>= Script(ABC, [Has("b")])
        self.assertEqual((str(script), str(first)), ("has a\nhas b", "has a"))

    def test_16_without(self):
        script = Script(ABC, [Has("a"), Has("b"), Pick(["c"])])
        self.assertEqual([str(script.without(at)) for at in range(3)], ["has b\npick c", "has a\npick c", "has a\nhas b"])
        self.assertEqual(script.without(at=2).ends, ("a", "b", "c"))
        self.assertEqual(str(script), "has a\nhas b\npick c")
        self.assertEqual(str(Script(["a"], [Has("a")]).without(0)), "")
        for at in (-1, 3, 4, -3, 10**20):
            self.no_step(at, script.without)
        self.no_step(0, Script(["a"]).without)

    def test_16_without_a_step_that_others_need(self):
        for script, at, told in [
            (SCRIPT, 1, (1, "new")), (SCRIPT, 2, (2, "column")), (Script(["a"], [Put("b", "x"), Stack([Has("b")])]), 0, (0, "steps")),
            (Script(["a"], [Rename("a", "b"), Has("b"), Rename("b", "a")]), 0, (0, "column")),
        ]:
            with self.assertRaises(InvalidScript) as caught:
                script.without(at)
            self.assertEqual((caught.exception.at, caught.exception.word), told)

    def test_16_upto(self):
        texts = ["", "has a", "has a\nrename a d", "has a\nrename a d\nput a x", str(SCRIPT)]
        self.assertEqual([str(SCRIPT.upto(at)) for at in range(5)], texts)
        self.assertEqual([SCRIPT.upto(at=2).columns, SCRIPT.upto(2).ends], [("a", "b", "c"), ("d", "b", "c")])
        self.assertEqual(Script(["a"]).upto(0), Script(["a"]))
        for at in (-1, 5, 10**20):
            self.no_step(at, SCRIPT.upto)
        self.no_step(1, Script(["a"]).upto)

    def test_16_texts(self):
        self.assertEqual(SCRIPT.texts, ("x",))
        self.assertEqual(Script(ABC).texts, ())
        for step, texts in [
            (Pick(["a"]), ()), (Rename("a", "d"), ()), (Has("a"), ()), (Alike("a", "b"), ()), (Is("a", "x1"), ("x1",)),
            (Put("d", "end"), ("end",)), (Melt(["b", "a"], "n", "v"), ("a", "b")), (Pivot(["c"], "a", "b", ["k", "h"]), ("h", "k")),
            (Join(["a"], [Pick(["a"])]), ()), (Stack([Is("a", "1"), Stack([Is("b", "0")])]), ("0", "1")),
            (Join(["a"], [Stack([Is("a", "x")]), Pick(["a"])]), ("x",)),
        ]:
            self.assertEqual(Script(ABC, [step]).texts, texts, str(step))
        steps = [Is("a", "z"), Stack([Is("a", "y"), Is("b", "z")]), Join(["a"], [Melt(["b", "c"], "n", "v")]), Is("a", "aa")]
        self.assertEqual(Script(ABC, steps).texts, ("aa", "b", "c", "y", "z"))

    def test_16_equal(self):
        self.assertTrue(SCRIPT == Script(tuple(ABC), tuple(STEPS)))
        self.assertFalse(SCRIPT != Script(ABC, STEPS))
        for other in (Script(ABC), Script(["a", "c", "b"], STEPS), Script(ABC, STEPS[:3]), Script([*ABC, "e"], STEPS)):
            self.assertFalse(SCRIPT == other)
            self.assertTrue(SCRIPT != other)
        nested = Script(ABC, [Stack([Stack([]), Has("a")])])
        self.assertFalse(nested == Script(ABC, [Stack([Stack([Has("a")])])]))

    def test_2_equal_to_nothing_of_another_class(self):
        empty = Script(["a"])
        for other in ("", ("a",), (), 0, None, True, Has("a"), Table(["a"]), Kind(["a"]), [empty], Stack([])):
            self.assertIs(empty == other, False)
            self.assertIs(other == empty, False)
            self.assertIs(empty != other, True)

    def test_2_not_iterable(self):
        for script in (SCRIPT, Script(["a"])):
            for use in (iter, list, tuple, sorted, enumerate):
                with self.assertRaises(TypeError):
                    use(script)

    def test_2_same_again(self):
        table = Table(ABC, [("1", "x", None), (None, "y", "z")])
        self.assertEqual(SCRIPT(table), SCRIPT(table))
        self.assertEqual(table.rows, ((None, "y", "z"), ("1", "x", None)))


class Rising(unittest.TestCase):
    def test_18_scripts_rise(self):
        chosen = random.Random(18)
        for number in range(1500):
            columns = chosen.sample(NAMES, chosen.randint(1, 4))
            script, table = some_script(chosen, columns, 6), some_table(chosen, columns, 5)
            shown = [[cell if chosen.random() < 0.8 else None for cell in row] for row in table.rows]
            self.assertTrue(script(Table(columns, shown[1:])) <= script(table), (str(script), str(table)))

    def test_18_told_texts_apart_texts_do_not_matter(self):
        chosen = random.Random(180)
        for number in range(1500):
            columns = chosen.sample(NAMES, chosen.randint(1, 4))
            script, table = some_script(chosen, columns, 6), some_table(chosen, columns, 5)
            texts = {text: chosen.choice(TEXTS) for text in TEXTS if text not in script.texts}
            self.assertTrue(script(table).mapped(texts) <= script(table.mapped(texts)), (str(script), str(table), texts))


if __name__ == "__main__":
    unittest.main()
