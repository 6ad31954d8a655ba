"""[17]: the texts of scripts."""

import random
import unittest

from choosing import NAMES, some_script
from meltback.errors import InvalidScript, InvalidText
from meltback.scripts import Script
from meltback.steps import Alike, Has, Is, Join, Melt, Pick, Pivot, Put, Rename, Stack
from meltback.tables import Table
from values import NO_LISTS_OF_NAMES, TEXTS, WRONG_NAME_STRINGS, WRONG_TEXT_STRINGS

STEPS = [
    Pick(["a", "b", "c"]), Rename("a", "d"), Has("d"), Is("d", "x1"), Put("a", "end"), Alike("a", "d"),
    Melt(["a", "d"], "n", "v"), Pivot(["b"], "n", "v", ["a", "d"]), Join(["b"], [Pick(["b"]), Stack([])]), Stack([Has("b")]),
]
TEXT = """pick a b c
rename a d
has d
is d x1
put a end
alike a d
melt a d as n v
pivot b by n v to a d
join b
pick b
stack
end
end
stack
has b
end"""
RIGHT_LINES = ["has a", "pick a b", "is a x", "join\nend", "stack\nhas a\nend"]
WRONG_LINES = [
    "", " ", "has", "has ", "has  a", " has a", "has a ", "has a b", "HAS a", "hasa", "a", "as", "end a", " end", "end ", "stack a", "stack ",
    "pick", "pick ", "pick a a", "pick a  b", "pick as", "rename a", "rename a b c", "rename", "is a", "is a x y", "is a abcdefg", "is a X",
    "is as x", "put a", "put a x y", "put end x", "alike a", "alike a b c", "alike by a", "melt", "melt a", "melt a b", "melt as n v",
    "melt a as n", "melt a as", "melt a as n v w", "melt a n v", "melt a a as n v", "melt a as as n v", "melt a as n as", "melt a b n v as",
    "pivot", "pivot by", "pivot a", "pivot by n", "pivot by n v", "pivot by n v to", "pivot n v to h", "pivot a by n v h", "pivot a by n to h",
    "pivot a a by n v to h", "pivot by n v to h h", "pivot by by n v to h", "pivot by n v w to h", "pivot by n v to h to k", "pivot to n v by h",
    "pivot by n v to h by k", "join a a", "join as", "join  a", "join ", "join A", "has a1", "pick 1", "join abcde", "has a\tb", "stack end",
]


class Texts(unittest.TestCase):
    def raises(self, at, text, columns=("a", "b")):
        with self.assertRaises(InvalidText) as caught:
            Script.read(columns, text)
        self.assertEqual(caught.exception.at, at, repr(text))

    def test_17_example(self):
        script = Script.read(["id", "n", "v"], "pivot id by n v to may june\nhas may")
        rows = [("1", "may", "x"), ("1", "may", "y"), ("2", "june", "x"), ("1", "july", "z")]
        self.assertEqual(str(script(Table(["id", "n", "v"], rows))), "id may june\n1 x -\n1 y -")
        self.assertEqual((script.texts, script.ends), (("june", "may"), ("id", "may", "june")))

    def test_17_str(self):
        script = Script(["a", "b", "c"], STEPS)
        self.assertEqual(str(script), TEXT)
        self.assertEqual(f"{Script(['a'])}", "")

    def test_17_read(self):
        script = Script.read(columns=["a", "b", "c"], text=TEXT)
        self.assertEqual((script, script.columns, script.steps), (Script(["a", "b", "c"], STEPS), ("a", "b", "c"), tuple(STEPS)))
        self.assertEqual([vars(step) for step in script.steps[:8]], [vars(step) for step in STEPS[:8]])

    def test_17_read_without_steps(self):
        script = Script.read(("a", "b"), "")
        self.assertEqual((script, len(script), script.ends), (Script(["a", "b"]), 0, ("a", "b")))

    def test_17_each_sort_of_line(self):
        lines = [
            Pick(["a"]), Rename("a", "a"), Has("a"), Put("z", "x"), Melt(["a"], "a", "n"), Pivot([], "a", "b", ["h"]),
            Pivot(["c"], "a", "b", ["a", "b"]), Join([], [Pick(["a"]), Rename("a", "z")]), Join(["a", "b"], [Pick(["b", "a"])]), Stack([]),
        ]
        for step in lines:
            read = Script.read(["a", "b", "c"], str(step))
            self.assertEqual((read.steps, type(read[0]), vars(read[0])), ((step,), type(step), vars(step)))
        for text in TEXTS:
            self.assertEqual(Script.read(["a"], f"is a {text}\nput z {text}").steps, (Is("a", text), Put("z", text)))

    def test_17_read_gives_back(self):
        chosen = random.Random(17)
        for number in range(1000):
            columns = chosen.sample(NAMES, chosen.randint(1, 4))
            script = some_script(chosen, columns, 6)
            self.assertEqual(Script.read(columns, str(script)), script)
            self.assertEqual(str(Script.read(columns, str(script))), str(script))

    def test_17_wrong_lines(self):
        for line in WRONG_LINES:
            if line:
                self.raises(0, line)
            for ahead in RIGHT_LINES:
                at = len(ahead.split("\n"))
                self.raises(at, f"{ahead}\n{line}")
                self.raises(at, f"{ahead}\n{line}\nhas a")
                self.raises(at + 1, f"stack\n{ahead}\n{line}\nend")

    def test_17_wrong_names_and_texts(self):
        for name in WRONG_NAME_STRINGS:
            if "\n" not in name:
                for line in (f"has {name}", f"pick a {name}", f"alike {name} a", f"rename a {name}", f"melt a as n {name}"):
                    self.raises(1, f"has a\n{line}\nhas a")
        for text in WRONG_TEXT_STRINGS:
            if "\n" not in text:
                self.raises(0, f"is a {text}")
                self.raises(0, f"put z {text}")

    def test_17_the_first_wrong_line_is_told(self):
        self.raises(1, "has a\nhas\npick")
        self.raises(0, "pick\nstack")
        self.raises(2, "stack\nhas a\npick")

    def test_17_empty_lines(self):
        for text, at in [("\n", 0), ("has a\n", 1), ("\nhas a", 0), ("has a\n\nhas b", 1), ("stack\n", 1), ("stack\nend\n", 2)]:
            self.raises(at, text)

    def test_17_too_many_ends(self):
        for text, at in [
            ("end", 0), ("has a\nend", 1), ("stack\nend\nend", 2), ("join a\nstack\nend\nend\nend\nhas a", 4), ("end\nstack", 0),
            ("stack\nend\nend\nhas", 2),
        ]:
            self.raises(at, text)

    def test_17_too_few_ends(self):
        for text in ("stack", "join", "join a", "has a\nstack", "stack\nstack\nend", "stack\nhas a\njoin a\nstack\nend\nend", "join\nstack"):
            self.raises(len(text.split("\n")), text)
        self.raises(3, "stack\nhas a\nis a end")

    def test_17_deep(self):
        self.raises(166, "\n".join(["stack"] * 166))
        text = "\n".join(["stack"] * 50 + ["has a"] + ["end"] * 50)
        script = Script.read(["a"], text)
        self.assertEqual((str(script), len(script), script(Table(["a"], [["x"]])).rows), (text, 1, (("x",),)))

    def test_17_errors_of_scripts_come_then(self):
        for columns, text, told in [
            ([], "has a", (-1, "columns")), (["a", "a"], "", (-1, "columns")), (["a"], "has b", (0, "column")),
            (["a", "b"], "alike a a", (0, "column")), (["a", "b"], "has a\nrename a b", (1, "new")), (["a"], "melt a as n n", (0, "new")),
            (["a"], "stack\nput b x\nend", (0, "steps")), (["a"], "has a\njoin\nhas b\nend\nhas c", (1, "steps")),
        ]:
            with self.assertRaises(InvalidScript) as caught:
                Script.read(columns, text)
            self.assertEqual((caught.exception.at, caught.exception.word), told)
        for columns in NO_LISTS_OF_NAMES:
            with self.assertRaises(InvalidScript) as caught:
                Script.read(columns, "has a")
            self.assertEqual((caught.exception.at, caught.exception.word), (-1, "columns"))
            self.raises(1, "has a\nhas", columns)


if __name__ == "__main__":
    unittest.main()
