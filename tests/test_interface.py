"""The section "The interface": names, arguments, and where they are defined."""

import ast
import inspect
import unittest
from pathlib import Path

from meltback import deciding, desk, errors, kinds, scripts, shapes, steps, tables, ways

PACKAGE = Path(__file__).resolve().parent.parent / "meltback"

# For each module: its classes, the parameters they are made with, and what stands in their bodies.
COMPARED = ["__le__", "__lt__", "__ge__", "__gt__", "__eq__"]
TABLE = ["texts", "under", "mapped", "read", "__len__", "__getitem__", "__contains__", "__or__", "__and__", "__str__"]
STEP = ["__eq__", "__str__"]
SCRIPT = ["texts", "without", "upto", "read", "__call__", "__len__", "__getitem__", "__rshift__", "__eq__", "__str__"]
KIND = ["follows", "read", "__contains__", "__and__", "__str__"]
CLASSES = [
    (tables, "Table", ["columns", "rows=()"], TABLE + COMPARED),
    (steps, "Step", None, STEP),
    (steps, "Pick", ["columns"], STEP),
    (steps, "Rename", ["old", "new"], STEP),
    (steps, "Has", ["column"], STEP),
    (steps, "Is", ["column", "text"], STEP),
    (steps, "Put", ["column", "text"], STEP),
    (steps, "Alike", ["column", "other"], STEP),
    (steps, "Melt", ["columns", "name", "value"], STEP),
    (steps, "Pivot", ["by", "name", "value", "heads"], STEP),
    (steps, "Join", ["columns", "steps"], STEP),
    (steps, "Stack", ["steps"], STEP),
    (scripts, "Script", ["columns", "steps=()"], SCRIPT),
    (kinds, "Kind", ["columns", "always=()", "rules=()"], KIND + COMPARED),
    (shapes, "Shape", None, ["mapped"]),
    (desk, "Desk", [], ["say", "several", "trial", "tried", "__len__"]),
    (errors, "TableError", None, []),
    (errors, "InvalidTable", ["word"], []),
    (errors, "InvalidStep", ["word"], []),
    (errors, "InvalidScript", ["at", "word"], []),
    (errors, "InvalidKind", ["word"], []),
    (errors, "InvalidText", ["at"], []),
    (errors, "InvalidCommand", None, []),
    (errors, "Mismatch", None, []),
    (errors, "NoRow", ["at"], []),
    (errors, "NoStep", ["at"], []),
    (errors, "NoColumn", ["name"], []),
]
METHODS = [
    (tables.Table.under, ["name"]), (tables.Table.mapped, ["texts"]), (tables.Table.read, ["text"]),
    (scripts.Script.without, ["at"]), (scripts.Script.upto, ["at"]), (scripts.Script.read, ["columns", "text"]),
    (scripts.Script.__call__, ["table"]), (kinds.Kind.follows, ["by", "column"]), (kinds.Kind.read, ["text"]),
    (shapes.Shape.mapped, ["texts"]),
    (desk.Desk.say, ["command"]), (desk.Desk.several, ["commands"]), (desk.Desk.trial, []), (desk.Desk.tried, ["work"]),
]
FUNCTIONS = [
    (shapes, "shapes", ["script", "kind"]), (shapes, "tells", ["script", "table", "row"]), (shapes, "weight", ["script", "kind"]),
    (deciding, "within", ["p", "q", "kind"]), (deciding, "same", ["p", "q", "kind"]), (deciding, "lost", ["p", "q", "kind"]),
    (deciding, "needless", ["p", "kind"]), (deciding, "steady", ["p", "kind"]), (deciding, "commuting", ["p", "q", "kind"]),
    (deciding, "doubled", ["p", "at", "kind"]), (deciding, "never", ["p", "kind"]),
    (ways, "way", ["p", "q", "kind"]), (ways, "no_way", ["p", "q", "kind"]), (ways, "no_way_holds", ["p", "q", "kind", "value"]),
    (ways, "kept", ["p", "kind"]), (ways, "takes_back", ["p", "r", "kind"]),
]
CLASS_METHODS = [tables.Table, scripts.Script, kinds.Kind]
PROPERTIES = [tables.Table, scripts.Script]


def parameters(function):
    return [str(one) for name, one in inspect.signature(function).parameters.items() if name != "self"]


class Interface(unittest.TestCase):
    def test_classes_stand_in_their_files(self):
        for module, name, passed, body in CLASSES:
            self.assertEqual(getattr(module, name).__module__, module.__name__)
            tree = ast.parse((PACKAGE / (module.__name__.split(".")[1] + ".py")).read_text())
            self.assertIn(name, [node.name for node in tree.body if isinstance(node, ast.ClassDef)])

    def test_parameters_of_classes(self):
        for module, name, passed, body in CLASSES:
            if passed is not None:
                self.assertEqual(parameters(getattr(module, name)), passed, name)

    def test_methods_stand_in_their_classes(self):
        for module, name, passed, body in CLASSES:
            for method in body:
                self.assertIn(method, vars(getattr(module, name)), name)

    def test_parameters_of_methods(self):
        for method, passed in METHODS:
            self.assertEqual(parameters(method), passed)

    def test_class_methods_and_properties(self):
        for one in CLASS_METHODS:
            self.assertIsInstance(vars(one)["read"], classmethod)
        for one in PROPERTIES:
            self.assertIsInstance(vars(one)["texts"], property)

    def test_functions_stand_in_their_files(self):
        for module, name, passed in FUNCTIONS:
            self.assertEqual(getattr(module, name).__module__, module.__name__)
            tree = ast.parse((PACKAGE / (module.__name__.split(".")[1] + ".py")).read_text())
            self.assertIn(name, [node.name for node in tree.body if isinstance(node, ast.FunctionDef)])
            self.assertEqual(parameters(getattr(module, name)), passed)

    def test_attributes_are_set_when_objects_are_made(self):
        script, kind = scripts.Script(["a"], [steps.Has("a")]), kinds.Kind(["a"])
        self.assertLessEqual({"columns", "steps", "ends"}, set(vars(script)))
        self.assertLessEqual({"columns", "always", "rules"}, set(vars(kind)))
        self.assertLessEqual({"table", "row"}, set(vars(shapes.shapes(script, kind)[0])))
        self.assertLessEqual({"table", "kind"}, set(vars(desk.Desk())))

    def test_the_package_file_is_a_docstring(self):
        tree = ast.parse((PACKAGE / "__init__.py").read_text())
        self.assertEqual(len(tree.body), 1)
        self.assertIsNotNone(ast.get_docstring(tree))


if __name__ == "__main__":
    unittest.main()
