"""The package's files keep to the part of Python that is allowed: what of its rules can be seen in the text."""

import ast
import builtins
import pathlib
import re
import unittest

import lotstore

PACKAGE = pathlib.Path(lotstore.__file__).parent
STATEMENTS = (ast.Assign, ast.AugAssign, ast.If, ast.While, ast.For, ast.Return, ast.Break, ast.Continue, ast.Pass,
              ast.Raise, ast.Expr, ast.FunctionDef, ast.ClassDef, ast.ImportFrom)
EXPRESSIONS = (ast.Constant, ast.List, ast.Tuple, ast.Dict, ast.BinOp, ast.UnaryOp, ast.BoolOp, ast.Compare, ast.IfExp,
               ast.Call, ast.Attribute, ast.Subscript, ast.Slice, ast.ListComp, ast.Name, ast.Lambda)
BUILT_IN = """len range enumerate zip min max sum abs sorted reversed int str bool list tuple dict set frozenset isinstance
ord repr any all divmod""".split()
METHODS = """append clear copy count endswith extend find get index insert isalnum isalpha isdigit islower isspace
isupper items join keys ljust lower lstrip partition pop remove replace reverse rfind rjust rpartition rsplit rstrip
setdefault split splitlines startswith strip update upper values zfill bit_length""".split()
NOT_NAMES = """register mro elements open input version_info with_traceback add_note format format_map""".split()
NOT_WORDS = """type typing typing_extensions enum Enum IntEnum StrEnum Flag IntFlag Generic Protocol ABC ABCMeta
namedtuple NamedTuple TypedDict TYPE_CHECKING abstractmethod""".split()
PYTHONS_VALUES = (str, int, list, dict, set, bytes, tuple)
VALUE_NAMES = "count index title find get join lower upper split strip copy add".split()


def files():
    return sorted(PACKAGE.glob("*.py"))


def tree_of(path):
    return ast.parse(path.read_text(encoding="utf-8"))


def defs(tree):
    return [node for node in ast.walk(tree) if isinstance(node, ast.FunctionDef)]


def bound_names(tree):
    """All names that are given a value anywhere, parameters among them."""
    stored = [node.id for node in ast.walk(tree) if isinstance(node, ast.Name) and isinstance(node.ctx, ast.Store)]
    return stored + [node.arg for node in ast.walk(tree) if isinstance(node, ast.arg)]


def top_names(tree):
    named = [node.name for node in tree.body if isinstance(node, (ast.FunctionDef, ast.ClassDef))]
    return named + [node.targets[0].id for node in tree.body if isinstance(node, ast.Assign)]


def imports(tree):
    return [node for node in ast.walk(tree) if isinstance(node, ast.ImportFrom)]


class LanguageTest(unittest.TestCase):
    def each(self):
        return [(path, tree_of(path)) for path in files()]

    def test_files(self):
        self.assertTrue((PACKAGE / "__init__.py").exists())
        for path in PACKAGE.iterdir():
            if path.name != "__pycache__":
                self.assertRegex(path.name, r"^[a-z0-9_]+\.py$")
                self.assertNotIn(path.stem, dir(builtins))
        for path in files():
            text = path.read_text(encoding="utf-8")
            self.assertFalse(re.search(r"[^ -~\n]", text), path.name)
            self.assertLessEqual(len(text.splitlines()), 400)
            self.assertLessEqual(max(map(len, text.splitlines())), 120)
            for word in NOT_WORDS:
                self.assertFalse(re.search(rf"\b{word}\b", text), f"{path.name}: {word}")
            self.assertFalse(re.search("dataclass|overload|contextmanager", text), path.name)

    def test_imports_are_own_and_without_a_ring(self):
        drawn = {}
        for path, tree in self.each():
            drawn[path.stem] = []
            for node in imports(tree):
                self.assertIn(node, tree.body)
                folder, _, module = node.module.partition(".")
                self.assertEqual((folder, node.level), ("lotstore", 0))
                names = top_names(tree_of(PACKAGE / f"{module}.py"))
                self.assertLessEqual({alias.name for alias in node.names}, set(names))
                drawn[path.stem].append(module)
        self.assertEqual(drawn["__init__"], [])
        while drawn:
            ends = [module for module in drawn if not set(drawn[module]) & set(drawn)]
            self.assertTrue(ends, f"a ring of imports among {sorted(drawn)}")
            for module in ends:
                drawn.pop(module)

    def test_statements_and_expressions(self):
        for _, tree in self.each():
            for node in ast.walk(tree):
                if isinstance(node, ast.stmt):
                    self.assertIsInstance(node, STATEMENTS, ast.dump(node))
                if isinstance(node, ast.expr):
                    self.assertIsInstance(node, EXPRESSIONS, ast.dump(node))
                if isinstance(node, ast.Constant):
                    self.assertIn(node.value.__class__, (int, str, bool, type(None)))
                self.assertNotIsInstance(node, (ast.Div, ast.Is, ast.IsNot, ast.MatMult))
                if isinstance(node, ast.ListComp):
                    self.assertEqual(len(node.generators), 1)
                    self.assertLessEqual(len(node.generators[0].ifs), 1)
                if isinstance(node, (ast.For, ast.While)):
                    self.assertEqual(node.orelse, [])
                if isinstance(node, ast.Assign):
                    self.assertEqual(len(node.targets), 1)

    def test_functions(self):
        for _, tree in self.each():
            for node in defs(tree):
                self.assertLessEqual(node.end_lineno - node.lineno + 1, 40, node.name)
                given = node.args
                self.assertFalse(given.vararg or given.kwarg or given.kwonlyargs or given.posonlyargs)
                self.assertEqual(node.decorator_list, [])

    def test_names(self):
        for _, tree in self.each():
            imported = [alias.name for node in imports(tree) for alias in node.names]
            classes = [node.name for node in tree.body if isinstance(node, ast.ClassDef)]
            self.assertEqual(len(top_names(tree) + imported), len(set(top_names(tree) + imported)))
            for name in bound_names(tree):
                self.assertFalse(name.startswith("_"), name)
                self.assertNotIn(name, dir(builtins) + imported + classes + NOT_NAMES)
            for node in defs(tree):
                self.assertTrue(node.name == "__init__" or not node.name.startswith("_"), node.name)
                self.assertNotIn(node.name, dir(builtins) + NOT_NAMES)

    def test_pythons_own_names(self):
        for _, tree in self.each():
            for node in ast.walk(tree):
                if isinstance(node, ast.Name) and node.id in dir(builtins):
                    self.assertIn(node.id, BUILT_IN)
                if isinstance(node, ast.Call) and isinstance(node.func, ast.Attribute):
                    self.assertIn(node.func.attr, METHODS)
                if isinstance(node, ast.Attribute) and isinstance(node.ctx, ast.Store):
                    taken = [name for kind in PYTHONS_VALUES for name in dir(kind) if name not in VALUE_NAMES]
                    self.assertNotIn(node.attr, taken + NOT_NAMES)

    def test_sets_are_only_counted(self):
        for _, tree in self.each():
            calls = [node for node in ast.walk(tree) if isinstance(node, ast.Call) and isinstance(node.func, ast.Name)]
            sets = [node for node in calls if node.func.id == "set"]
            counted = [node.args[0] for node in calls if node.func.id in ("len", "sorted") and len(node.args) == 1]
            for node in sets:
                self.assertIn(node, counted)
