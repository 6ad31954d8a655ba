"""[21]: the texts of kinds."""

import random
import unittest

from choosing import NAMES, some_kind
from meltback.errors import InvalidText
from meltback.kinds import Kind
from values import WRONG_NAME_STRINGS

WRONG_RULES = [
    "", " ", "rule", "rule ", "rule :", "rule : ", "rule a", "rule a b", "rule a :", "rule : a b", "rule a : b c", "rule a: b", "rule a :b",
    "rule a  : b", "rule a :  b", " rule a : b", "rule a : b ", "rule a : a", "rule a a : b", "rule z : b", "rule a : z", "rule a : b : c",
    "rule : : b", "rule :: b", "Rule a : b", "rules a : b", "a : b", ": b", "rule a , c : b", "rule as : b", "rule  : b", "always a b z", "end",
]
WRONG_ALWAYS = ["always", "always ", "always z", "always a z", "always a a", "always  a", " always a", "always a ", "Always a", "always :", "always a : b"]


class Texts(unittest.TestCase):
    def raises(self, at, text):
        with self.assertRaises(InvalidText) as caught:
            Kind.read(text)
        self.assertEqual(caught.exception.at, at, repr(text))

    def is_kind(self, kind, columns, always, rules):
        self.assertEqual((kind.columns, kind.always, kind.rules), (columns, always, rules))

    def test_21_str(self):
        self.assertEqual(str(Kind(["a"])), "a")
        self.assertEqual(str(Kind(["b", "a"], ["b", "a"])), "b a\nalways a b")
        self.assertEqual(str(Kind(["b", "a", "c"], [], [(("c", "a"), "b"), ((), "c")])), "b a c\nrule c a : b\nrule : c")
        self.assertEqual(f"{Kind(['a', 'b'], ['b'], [(('a',), 'b')])}", "a b\nalways b\nrule a : b")

    def test_21_read(self):
        self.is_kind(Kind.read("a"), ("a",), (), ())
        self.is_kind(Kind.read(text="b a\nalways b a"), ("b", "a"), ("a", "b"), ())
        self.is_kind(Kind.read("a b c\nrule : c\nrule b a : c\nrule : c"), ("a", "b", "c"), (), (((), "c"), (("b", "a"), "c"), ((), "c")))
        self.is_kind(Kind.read("a b c\nalways c\nrule b : c"), ("a", "b", "c"), ("c",), ((("b",), "c"),))
        self.is_kind(Kind.read("rule abcd\nrule rule : abcd"), ("rule", "abcd"), (), ((("rule",), "abcd"),))

    def test_21_read_gives_back(self):
        chosen = random.Random(21)
        for number in range(500):
            kind = some_kind(chosen, chosen.sample(NAMES, chosen.randint(1, 5)), 4)
            read = Kind.read(str(kind))
            self.is_kind(read, kind.columns, kind.always, kind.rules)
            self.assertEqual((read, str(read)), (kind, str(kind)))

    def test_21_wrong_columns(self):
        for line in ["", " ", "a a", "a b a", "a ", " a", "a  b", "always a", "a :", *WRONG_NAME_STRINGS]:
            if line.split("\n")[0] == line and line != "a b":
                self.raises(0, line)
                self.raises(0, f"{line}\nalways a")
                self.raises(0, f"{line}\nrule")
        self.raises(0, "\na")

    def test_21_wrong_always(self):
        for line in WRONG_ALWAYS:
            self.raises(1, f"a b c\n{line}")
            self.raises(1, f"a b c\n{line}\nrule a : b")
            self.raises(1, f"a b c\n{line}\nalways a")

    def test_21_always_at_another_place(self):
        self.raises(2, "a b\nalways a\nalways b")
        self.raises(2, "a b\nalways a\nalways a")
        self.raises(2, "a b\nrule a : b\nalways a")
        self.raises(3, "a b\nalways a\nrule a : b\nalways b")

    def test_21_wrong_rules(self):
        for line in WRONG_RULES:
            self.raises(1, f"a b c\n{line}")
            self.raises(2, f"a b c\nalways a\n{line}\nrule")
            self.raises(2, f"a b c\nrule : a\n{line}")
            self.raises(3, f"a b c\nalways a c\nrule a : b\n{line}\nrule a : b")

    def test_21_lines_too_many(self):
        self.raises(1, "a\n")
        self.raises(2, "a b\nalways a\n")
        self.raises(1, "a b\na b")
        self.raises(1, "a b\n\nrule a : b")


if __name__ == "__main__":
    unittest.main()
