"""The rules of the language that can be seen at a glance in the files of the package."""

import ast
import builtins
import re
import unittest
import warnings
from pathlib import Path

PACKAGE = Path(__file__).resolve().parent.parent / "meltback"
FILES = sorted(path for path in PACKAGE.rglob("*") if path.is_file() and "__pycache__" not in path.parts)
TEXTS = {path.name: path.read_text(encoding="utf-8") for path in FILES}

BUILTINS = """len range enumerate zip min max sum abs sorted reversed int str bool list tuple dict set isinstance ord repr any
all divmod iter next Exception ValueError TypeError KeyError IndexError LookupError ZeroDivisionError ArithmeticError
OverflowError RuntimeError NotImplementedError AttributeError StopIteration NotImplemented property staticmethod classmethod
super""".split()
BARRED = """type typing typing_extensions enum Enum IntEnum StrEnum Flag IntFlag Generic Protocol ABC ABCMeta namedtuple NamedTuple
TypedDict TYPE_CHECKING abstractmethod""".split()
NOT_AS_NAMES = "register mro elements open input law version_info with_traceback add_note".split()
METHODS = """append clear copy count endswith extend find get index insert isalnum isalpha isdigit islower isspace isupper items
join keys ljust lower lstrip partition pop remove replace reverse rfind rjust rpartition rsplit rstrip setdefault split splitlines
startswith strip update upper values zfill bit_length add discard sort""".split()
SPECIAL = """init eq repr str len enter exit call iter lt le gt ge ne add sub mul floordiv mod pow and or xor lshift rshift
neg pos invert abs bool contains getitem setitem""".split()
ALLOWED_STATEMENTS = (
    ast.Assign, ast.AugAssign, ast.If, ast.While, ast.For, ast.Return, ast.Break, ast.Continue, ast.Pass, ast.Raise, ast.Assert,
    ast.Delete, ast.Nonlocal, ast.Match, ast.With, ast.Try, ast.Expr, ast.FunctionDef, ast.ClassDef, ast.ImportFrom,
)


def trees():
    with warnings.catch_warnings():
        warnings.simplefilter("error")
        return [(name, ast.parse(text)) for name, text in TEXTS.items()]


def nodes(*kinds):
    return [(name, node) for name, tree in trees() for node in ast.walk(tree) if isinstance(node, kinds)]


class Files(unittest.TestCase):
    def test_l1_l14_names(self):
        for path in FILES:
            self.assertRegex(path.name, r"^[a-z0-9_]+\.py$")

    def test_l10_sizes(self):
        for name, text in TEXTS.items():
            self.assertLess(len(text.split("\n")), 400, name)
            self.assertLessEqual(max(len(line) for line in text.split("\n")), 120, name)
        for name, node in nodes(ast.FunctionDef):
            self.assertLessEqual(node.end_lineno - node.lineno + 1, 40, node.name)

    def test_l14_characters(self):
        for name, text in TEXTS.items():
            self.assertRegex(text, r"\A[ -~\n]*\Z", name)

    def test_l17_barred_words(self):
        for name, text in TEXTS.items():
            for word in BARRED:
                self.assertIsNone(re.search(rf"\b{word}\b", text), (name, word))
            self.assertIsNone(re.search("dataclass|overload|contextmanager", text), name)


class Names(unittest.TestCase):
    def test_l8_builtins(self):
        for name, node in nodes(ast.Name):
            if isinstance(node.ctx, ast.Load) and hasattr(builtins, node.id):
                self.assertIn(node.id, BUILTINS, (name, node.lineno))

    def test_l12_l15_l17_names_that_are_bound(self):
        bound = [node.id for name, node in nodes(ast.Name) if isinstance(node.ctx, ast.Store)]
        bound += [node.arg for name, node in nodes(ast.arg)]
        bound += [node.name for name, node in nodes(ast.ClassDef)]
        bound += [node.name for name, node in nodes(ast.FunctionDef) if not node.name.startswith("__")]
        for name in bound:
            self.assertFalse(name.startswith("_") or hasattr(builtins, name) or name in NOT_AS_NAMES, name)

    def test_l5_special_methods(self):
        for name, node in nodes(ast.FunctionDef):
            if node.name.startswith("_"):
                self.assertIn(re.sub(r"^__[ri]?|__$", "", node.name), SPECIAL + [word[1:] for word in SPECIAL], node.name)

    def test_l18_methods_and_attributes_differ(self):
        methods = {method.name for name, node in nodes(ast.ClassDef) for method in node.body if isinstance(method, ast.FunctionDef)}
        stored = {node.attr for name, node in nodes(ast.Attribute) if isinstance(node.ctx, ast.Store)}
        self.assertEqual(methods & stored, set())
        read = {node.attr for name, node in nodes(ast.Attribute) if isinstance(node.ctx, ast.Load)}
        self.assertEqual(read - stored - methods - set(METHODS), set())

    def test_l15_no_local_name_of_a_class_or_an_import(self):
        for name, tree in trees():
            above = [node.name for node in tree.body if isinstance(node, ast.ClassDef)]
            above += [alias.name for node in tree.body if isinstance(node, ast.ImportFrom) for alias in node.names]
            for node in ast.walk(tree):
                if isinstance(node, ast.arg):
                    self.assertNotIn(node.arg, above, name)
                if isinstance(node, ast.Name) and isinstance(node.ctx, ast.Store):
                    self.assertNotIn(node.id, above, name)


class Forms(unittest.TestCase):
    def test_l2_l16_imports(self):
        for name, node in nodes(ast.Import, ast.ImportFrom):
            self.assertIsInstance(node, ast.ImportFrom, name)
            self.assertEqual((node.level, node.module.split(".")[0]), (0, "meltback"), name)
            tree = ast.parse(TEXTS[node.module.split(".")[1] + ".py"])
            defined = [one.name for one in tree.body if isinstance(one, (ast.FunctionDef, ast.ClassDef))]
            defined += [target.id for one in tree.body if isinstance(one, ast.Assign) for target in one.targets]
            for alias in node.names:
                self.assertIsNone(alias.asname, name)
                self.assertIn(alias.name, defined, name)

    def test_l6_statements(self):
        for name, node in nodes(ast.stmt):
            self.assertIsInstance(node, ALLOWED_STATEMENTS, (name, node.lineno))

    def test_l7_no_generator_expressions_and_floats(self):
        self.assertEqual(nodes(ast.GeneratorExp, ast.Div), [])
        for name, node in nodes(ast.Constant):
            self.assertNotIsInstance(node.value, (float, complex), name)

    def test_l20_is(self):
        for name, node in nodes(ast.Compare):
            for sign, right in zip(node.ops, node.comparators):
                if isinstance(sign, (ast.Is, ast.IsNot)):
                    self.assertIsInstance(right, ast.Constant, (name, node.lineno))

    def test_l23_iterated_at_once(self):
        takers = ("list", "tuple", "dict", "sorted", "sum", "any", "all", "enumerate", "zip", "min", "max")
        for name, tree in trees():
            placed = [node.iter for node in ast.walk(tree) if isinstance(node, (ast.For, ast.comprehension))]
            for node in ast.walk(tree):
                if isinstance(node, ast.Call) and isinstance(node.func, ast.Name) and node.func.id in takers:
                    placed += node.args[:1]
            for node in ast.walk(tree):
                if isinstance(node, ast.Call) and isinstance(node.func, ast.Name) and node.func.id in ("zip", "enumerate", "range", "reversed"):
                    self.assertIn(node, placed, (name, node.lineno))
                if isinstance(node, ast.Call) and isinstance(node.func, ast.Attribute) and node.func.attr in ("items", "keys", "values"):
                    self.assertIn(node, placed, (name, node.lineno))

    def test_l23_nothing_that_is_iterated_over_is_changed(self):
        changing = ("append", "extend", "pop", "clear", "insert", "remove", "setdefault", "update")
        for name, node in nodes(ast.For):
            over = ast.unparse(node.iter)
            for one in [within for row in node.body for within in ast.walk(row)]:
                if isinstance(one, ast.Call) and isinstance(one.func, ast.Attribute) and one.func.attr in changing:
                    self.assertNotEqual(ast.unparse(one.func.value), over, (name, node.lineno))

    def test_l19_errors(self):
        own = [node.name for node in ast.parse(TEXTS["errors.py"]).body if isinstance(node, ast.ClassDef)]
        for name, node in nodes(ast.ExceptHandler):
            self.assertIsInstance(node.type, ast.Name, (name, node.lineno))
            self.assertIn(node.type.id, own + ["KeyError", "ZeroDivisionError"], (name, node.lineno))
        for name, node in nodes(ast.Raise):
            self.assertIsInstance(node.exc, ast.Call, (name, node.lineno))
            self.assertIn(node.exc.func.id, own + ["TypeError"], (name, node.lineno))

    def test_l5_an_index_needs_iter_and_not_implemented_is_returned(self):
        for name, node in nodes(ast.ClassDef):
            methods = [method.name for method in node.body if isinstance(method, ast.FunctionDef)]
            self.assertTrue("__getitem__" not in methods or "__iter__" in methods, node.name)
        for name, tree in trees():
            returned = [node.value for node in ast.walk(tree) if isinstance(node, ast.Return)]
            for node in ast.walk(tree):
                if isinstance(node, ast.Name) and node.id == "NotImplemented":
                    self.assertIn(node, returned, (name, node.lineno))

    def test_l16_no_two_files_import_from_each_other(self):
        above = {}
        for name, node in nodes(ast.ImportFrom):
            above.setdefault(name, set()).add(node.module.split(".")[1] + ".py")
        left = dict.fromkeys(TEXTS)
        while left:
            free = [name for name in left if not above.get(name, set()) & set(left)]
            self.assertNotEqual(free, [], list(left))
            left = {name: None for name in left if name not in free}

    def test_l24_sets_stand_where_they_may(self):
        for name, tree in trees():
            placed = []
            for node in ast.walk(tree):
                if isinstance(node, ast.Call) and isinstance(node.func, ast.Name) and node.func.id in ("sorted", "len"):
                    placed += node.args
            for node in ast.walk(tree):
                is_call = isinstance(node, ast.Call) and isinstance(node.func, ast.Name) and node.func.id == "set"
                if is_call or isinstance(node, (ast.Set, ast.SetComp)):
                    self.assertIn(node, placed, (name, node.lineno))

    def test_l27_strings(self):
        for name, node in nodes(ast.Constant):
            if isinstance(node.value, str):
                self.assertNotIn(chr(37), node.value, name)

    def test_l28_text_and_length_end_with_a_return(self):
        for name, node in nodes(ast.FunctionDef):
            if node.name in ("__str__", "__repr__", "__len__"):
                self.assertIsInstance(node.body[-1], ast.Return, name)


if __name__ == "__main__":
    unittest.main()
