"""Any values, to be passed where the document asks for nothing better."""

from meltback.errors import InvalidTable, Mismatch
from meltback.kinds import Kind
from meltback.scripts import Script
from meltback.shapes import shapes
from meltback.steps import Has, Join, Pick
from meltback.tables import Table

OBJECTS = [Table(["a"]), Table(["a", "b"], [("x", None)]), Has("a"), Join((), [Pick(["a"])])]
OBJECTS += [Script(["a"]), Script(["a"], [Has("a")]), Kind(["a"]), shapes(Script(["a"]), Kind(["a"]))[0]]
NO_STRINGS = [None, True, False, 0, 1, -3, 10**30, b"a", [], (), ["a"], ("a",), [["a"]], (("x",), [None]), [[[[[["a"]]]]]]]
NO_SEQUENCES = [None, True, False, 0, 1, "", "a", "ab", "a b", b"a", InvalidTable("row"), Mismatch(), *OBJECTS]

WRONG_NAME_STRINGS = [
    "", "as", "by", "to", "end", "abcde", "A", "aB", "a1", "1", "a b", " a", "a ", "a\n", "\na", "a-", "-", "_", "\u00e9",
    "\u00df", "\uff41", "\u0430", "a\u0301", "a\x00", "\t", "a" * 1000,
]
WRONG_TEXT_STRINGS = [
    "", "abcdefg", "1234567", "A", "xY", "x y", " x", "x ", "x\n", "\n", "-", "x-", "_", "\u00e9", "\u00b2", "\u0663",
    "\uff11", "x\x00", "x" * 1000,
]
NO_NAMES = NO_STRINGS + WRONG_NAME_STRINGS + OBJECTS
NO_TEXTS = NO_STRINGS + WRONG_TEXT_STRINGS + OBJECTS
NO_CELLS = [value for value in NO_TEXTS if value is not None]

NAMES = ["a", "z", "ab", "abc", "abcd", "en", "ends", "tos", "bye", "asa", "nd"]
TEXTS = ["a", "0", "x1", "1x", "as", "by", "to", "end", "abcdef", "123456", "none"]

NO_LISTS_OF_NAMES = NO_SEQUENCES + [["a", "a"], ("a", "b", "a"), ["a", ["a"]], [("a",)], [None], ["a", 1], [True], [Has("a")]]
NO_LISTS_OF_NAMES += [["a", name] for name in WRONG_NAME_STRINGS]
NO_LISTS_OF_STEPS = NO_SEQUENCES + [[None], ["has a"], ["a"], [[Has("a")]], [Has("a"), 1], (Has("a"), "end"), [Table(["a"])], [True]]

