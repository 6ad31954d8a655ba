"""[10] to [14]: the steps, their arguments and their texts."""

import unittest
from itertools import product

from meltback.errors import InvalidStep
from meltback.steps import Alike, Has, Is, Join, Melt, Pick, Pivot, Put, Rename, Stack, Step
from meltback.tables import Table
from values import NAMES, NO_LISTS_OF_NAMES, NO_LISTS_OF_STEPS, NO_NAMES, NO_TEXTS, TEXTS

WITHIN = [Has("a"), Join((), [Pick(["b"]), Stack([])]), Is("a", "end")]

# Each step with its text, and with its arguments by name.
STEPS = [
    (Pick, {"columns": ("a", "b")}, "pick a b"),
    (Rename, {"old": "a", "new": "b"}, "rename a b"),
    (Has, {"column": "a"}, "has a"),
    (Is, {"column": "a", "text": "x1"}, "is a x1"),
    (Put, {"column": "a", "text": "x1"}, "put a x1"),
    (Alike, {"column": "a", "other": "b"}, "alike a b"),
    (Melt, {"columns": ("a", "b"), "name": "n", "value": "v"}, "melt a b as n v"),
    (Pivot, {"by": ("a",), "name": "n", "value": "v", "heads": ("h", "k")}, "pivot a by n v to h k"),
    (Join, {"columns": ("a", "b"), "steps": (Has("a"),)}, "join a b\nhas a\nend"),
    (Stack, {"steps": (Has("a"), Pick(["b"]))}, "stack\nhas a\npick b\nend"),
]

NO_SOME_NAMES = NO_LISTS_OF_NAMES + [[], ()]
# For each argument of each step: what it must not be.
WRONG = {
    Pick: [("columns", NO_SOME_NAMES)],
    Rename: [("old", NO_NAMES), ("new", NO_NAMES)],
    Has: [("column", NO_NAMES)],
    Is: [("column", NO_NAMES), ("text", NO_TEXTS)],
    Put: [("column", NO_NAMES), ("text", NO_TEXTS)],
    Alike: [("column", NO_NAMES), ("other", NO_NAMES)],
    Melt: [("columns", NO_SOME_NAMES), ("name", NO_NAMES), ("value", NO_NAMES)],
    Pivot: [("by", NO_LISTS_OF_NAMES), ("name", NO_NAMES), ("value", NO_NAMES), ("heads", NO_SOME_NAMES)],
    Join: [("columns", NO_LISTS_OF_NAMES), ("steps", NO_LISTS_OF_STEPS)],
    Stack: [("steps", NO_LISTS_OF_STEPS)],
}


class Right(unittest.TestCase):
    def test_10_texts(self):
        for kind, passed, text in STEPS:
            self.assertEqual(str(kind(*passed.values())), text)
            self.assertEqual(str(kind(**passed)), text)
            self.assertEqual(f"{kind(**passed)}", text)

    def test_11_attributes(self):
        for kind, passed, text in STEPS:
            lists = {name: list(value) if isinstance(value, tuple) else value for name, value in passed.items()}
            for step in (kind(**passed), kind(**lists)):
                self.assertEqual(vars(step), passed)
                self.assertTrue(all(type(getattr(step, name)) is type(value) for name, value in passed.items()))

    def test_11_all_are_steps(self):
        for kind, passed, text in STEPS:
            self.assertEqual(kind.__bases__, (Step,))
            self.assertIsInstance(kind(**passed), Step)

    def test_11_equal(self):
        made = [kind(**passed) for kind, passed, text in STEPS]
        again = [kind(**passed) for kind, passed, text in STEPS]
        for at, step in enumerate(made):
            for number, other in enumerate(again):
                self.assertIs(step == other, at == number)
                self.assertIs(step != other, at != number)

    def test_11_unequal_if_one_argument_is_another(self):
        pairs = [
            (Pick(["a", "b"]), Pick(["b", "a"])), (Rename("a", "b"), Rename("b", "a")), (Has("a"), Has("b")),
            (Is("a", "x"), Is("a", "y")), (Put("a", "x"), Put("b", "x")), (Is("a", "x"), Put("a", "x")),
            (Alike("a", "b"), Alike("b", "a")), (Melt(["a"], "n", "v"), Melt(["a"], "v", "n")),
            (Pivot(["a"], "n", "v", ["h"]), Pivot([], "n", "v", ["h"])), (Join([], []), Join(["a"], [])),
            (Join([], [Has("a")]), Join([], [Has("b")])), (Stack([]), Stack([Stack([])])),
            (Stack([Stack([]), Has("a")]), Stack([Stack([Has("a")])])),
        ]
        for step, other in pairs:
            self.assertFalse(step == other)
            self.assertTrue(step != other)

    def test_2_equal_to_nothing_of_another_class(self):
        for kind, passed, text in STEPS:
            step = kind(**passed)
            for other in (text, None, 0, True, [step], (step,), Table(["a"]), Step, kind):
                self.assertIs(step == other, False)
                self.assertIs(other == step, False)
                self.assertIs(step != other, True)

    def test_11_what_may_be_empty(self):
        self.assertEqual(str(Pivot([], "n", "v", ["h"])), "pivot by n v to h")
        self.assertEqual(str(Join([], [])), "join\nend")
        self.assertEqual(str(Join((), [Has("a")])), "join\nhas a\nend")
        self.assertEqual(str(Join(["a"], ())), "join a\nend")
        self.assertEqual(str(Stack([])), "stack\nend")

    def test_11_names_that_only_scripts_forbid(self):
        self.assertEqual(str(Rename("a", "a")), "rename a a")
        self.assertEqual(str(Alike("a", "a")), "alike a a")
        self.assertEqual(str(Melt(["a", "b"], "a", "b")), "melt a b as a b")
        self.assertEqual(str(Melt(["a"], "n", "n")), "melt a as n n")
        self.assertEqual(str(Pivot(["a"], "a", "a", ["a"])), "pivot a by a a to a")

    def test_11_all_names_and_texts(self):
        for name in NAMES:
            self.assertEqual(str(Has(name)), f"has {name}")
            self.assertEqual(str(Rename(name, name)), f"rename {name} {name}")
            for text in TEXTS:
                self.assertEqual(str(Is(name, text)), f"is {name} {text}")
                self.assertEqual(str(Put(name, text)), f"put {name} {text}")
        self.assertEqual(Pick(NAMES).columns, tuple(NAMES))

    def test_14_steps_within_steps(self):
        text = "stack\nhas a\njoin\npick b\nstack\nend\nend\nis a end\nend"
        self.assertEqual(str(Stack(WITHIN)), text)
        self.assertEqual(str(Join(["a", "b"], WITHIN)), text.replace("stack\nhas", "join a b\nhas"))
        self.assertEqual(Stack(WITHIN), Stack(tuple(WITHIN)))

    def test_2_later_changes_have_no_effect(self):
        names, steps = ["a", "b"], [Has("a")]
        made = [Pick(names), Melt(names, "n", "v"), Pivot(names, "n", "v", names), Join(names, steps), Stack(steps)]
        told = [str(step) for step in made]
        self.assertEqual((names, steps), (["a", "b"], [Has("a")]))
        names.append("c")
        steps[0] = Has("b")
        self.assertEqual([str(step) for step in made], told)
        self.assertEqual((made[2].by, made[2].heads, made[3].steps), (("a", "b"), ("a", "b"), (Has("a"),)))

    def test_2_not_iterable(self):
        for kind, passed, text in STEPS:
            for use in (iter, list, tuple):
                with self.assertRaises(TypeError):
                    use(kind(**passed))


class Wrong(unittest.TestCase):
    def raises(self, word, kind, passed):
        with self.assertRaises(InvalidStep) as caught:
            kind(**passed)
        self.assertEqual(caught.exception.word, word, passed)

    def test_11_one_argument_is_wrong(self):
        for kind, passed, text in STEPS:
            for name, values in WRONG[kind]:
                for value in values:
                    self.raises(name, kind, {**passed, name: value})

    def test_11_the_first_of_several_is_told(self):
        for kind, passed, text in STEPS:
            names = [name for name, values in WRONG[kind]]
            self.assertEqual(names, list(passed))
            for chosen in product((True, False), repeat=len(names)):
                wrong = {name: values[0] for (name, values), take in zip(WRONG[kind], chosen) if take}
                if wrong:
                    self.raises(list(wrong)[0], kind, {**passed, **wrong})

    def test_11_names_must_differ(self):
        self.raises("columns", Pick, {"columns": ["a", "b", "a"]})
        self.raises("by", Pivot, {"by": ["a", "a"], "name": "n", "value": "v", "heads": ["h"]})
        self.raises("heads", Pivot, {"by": [], "name": "n", "value": "v", "heads": ("h", "h")})
        self.raises("columns", Join, {"columns": ["a", "a"], "steps": 5})

    def test_11_a_step_is_no_sequence_of_steps(self):
        self.raises("steps", Stack, {"steps": Has("a")})
        self.raises("steps", Join, {"columns": [], "steps": Stack([])})


if __name__ == "__main__":
    unittest.main()
