"""Whether the package's files keep to the part of Python that the program is written in.

Not every rule can be seen from outside; these are the ones that a small reader can tell.
"""

import ast
import builtins
import pathlib
import re
import unittest

PACKAGE = pathlib.Path(__file__).resolve().parent.parent / "anydelay"

OWN_NAMES = set("""len range enumerate zip min max sum abs sorted reversed int str bool list tuple dict set frozenset
    isinstance ord repr any all divmod Exception ValueError TypeError KeyError IndexError LookupError
    ZeroDivisionError ArithmeticError OverflowError RuntimeError NotImplementedError AttributeError
    StopIteration""".split())
METHODS = set("""append clear copy count endswith extend find get index insert isalnum isalpha isdigit islower isspace
    isupper items join keys ljust lower lstrip partition pop remove replace reverse rfind rjust rpartition rsplit
    rstrip setdefault split splitlines startswith strip update upper values zfill bit_length""".split())
TWO_UNDERSCORES = {"__init__", "__eq__", "__repr__", "__str__", "__len__"}
WORDS = re.compile(r"\b(type|typing|typing_extensions|enum|Enum|IntEnum|StrEnum|Flag|IntFlag|Generic|Protocol|ABC|"
                   r"ABCMeta|namedtuple|NamedTuple|TypedDict|TYPE_CHECKING|abstractmethod)\b"
                   r"|dataclass|overload|contextmanager")
NOT_USED = {"register", "mro", "elements", "open", "input", "version_info", "with_traceback", "add_note"}
STATEMENTS = (ast.Assign, ast.AugAssign, ast.If, ast.While, ast.For, ast.Return, ast.Break, ast.Continue, ast.Pass,
              ast.Raise, ast.Try, ast.Expr, ast.FunctionDef, ast.ClassDef, ast.ImportFrom)
NO_EXPRESSIONS = (ast.GeneratorExp, ast.SetComp, ast.DictComp, ast.NamedExpr, ast.Starred, ast.Yield, ast.YieldFrom,
                  ast.Await)
NO_OPERATORS = (ast.Div, ast.MatMult)


def bound_names(tree):
    """All names that a file binds somewhere, with the node that does it."""
    for node in ast.walk(tree):
        if isinstance(node, (ast.FunctionDef, ast.ClassDef)):
            yield node.name, node
        elif isinstance(node, ast.arg):
            yield node.arg, node
        elif isinstance(node, ast.Name) and isinstance(node.ctx, ast.Store):
            yield node.id, node
        elif isinstance(node, ast.alias):
            yield node.asname or node.name, node


class Language(unittest.TestCase):

    def setUp(self):
        paths = sorted(path for path in PACKAGE.rglob("*") if "__pycache__" not in path.parts)
        self.paths = paths
        self.trees = {path: ast.parse(path.read_text(encoding="utf-8")) for path in paths}

    def nodes(self):
        for path, tree in self.trees.items():
            for node in ast.walk(tree):
                yield f"{path.name}:{getattr(node, 'lineno', 0)}", node

    def test_files(self):
        self.assertIn(PACKAGE / "__init__.py", self.paths)
        for path in self.paths:
            self.assertRegex(path.name, r"\A[a-z0-9_]+\.py\Z")

    def test_signs_words_and_sizes(self):
        for path in self.paths:
            text = path.read_text(encoding="utf-8")
            self.assertRegex(text, r"\A[ -~\n]*\Z", path.name)
            self.assertIsNone(WORDS.search(text), path.name)
            rows = text.split("\n")
            self.assertLessEqual(len(rows), 400, path.name)
            self.assertLessEqual(max(map(len, rows)), 120, path.name)

    def test_the_top_of_a_file(self):
        for path, tree in self.trees.items():
            self.assertIsNotNone(ast.get_docstring(tree), path.name)
            for node in tree.body[1:]:
                self.assertIsInstance(node, (ast.ImportFrom, ast.FunctionDef, ast.ClassDef, ast.Assign), path.name)
            names = [name for node in tree.body for name, _ in bound_names(ast.Module([node], []))
                     if isinstance(node, ast.Assign) or name == getattr(node, "name", None)]
            self.assertEqual(len(names), len(set(names)), path.name)

    def test_imports(self):
        drawn = {}
        for path, tree in self.trees.items():
            drawn[f"anydelay.{path.stem}"] = sources = set()
            for node in ast.walk(tree):
                if isinstance(node, ast.ImportFrom):
                    self.assertEqual(node.level, 0, path.name)
                    self.assertRegex(node.module, r"\Aanydelay\.[a-z_]+\Z")
                    source = self.trees[PACKAGE / (node.module.partition(".")[2] + ".py")]
                    defined = {name for row in source.body if not isinstance(row, ast.ImportFrom)
                               for name, _ in bound_names(ast.Module([row], []))}
                    self.assertLessEqual({alias.name for alias in node.names}, defined, path.name)
                    sources.add(node.module)
        while drawn:
            free = [name for name, sources in drawn.items() if not sources & set(drawn)]
            self.assertTrue(free, f"files that draw from one another: {sorted(drawn)}")
            for name in free:
                drawn.pop(name)

    def test_statements_and_expressions(self):
        for at, node in self.nodes():
            if isinstance(node, ast.stmt):
                self.assertIsInstance(node, STATEMENTS, at)
            self.assertNotIsInstance(node, NO_EXPRESSIONS, at)
            self.assertNotIsInstance(node, NO_OPERATORS, at)
            if isinstance(node, (ast.For, ast.While)):
                self.assertEqual(node.orelse, [], at)
            if isinstance(node, ast.Try):
                self.assertEqual(node.finalbody, [], at)
            if isinstance(node, ast.Assign):
                self.assertEqual(len(node.targets), 1, at)
            if isinstance(node, ast.ListComp):
                self.assertEqual(len(node.generators), 1, at)
                self.assertLessEqual(len(node.generators[0].ifs), 1, at)
            if isinstance(node, ast.Constant):
                self.assertIn(type(node.value), (int, str, bool, type(None)), at)
            if isinstance(node, ast.Compare) and any(isinstance(op, (ast.Is, ast.IsNot)) for op in node.ops):
                self.assertIsInstance(node.comparators[-1], ast.Constant, at)

    def test_functions_and_classes(self):
        for at, node in self.nodes():
            if isinstance(node, ast.FunctionDef):
                self.assertLessEqual(node.end_lineno - node.lineno + 1, 40, at)
                self.assertEqual(node.decorator_list, [], at)
                self.assertEqual((node.args.vararg, node.args.kwarg, node.args.kwonlyargs), (None, None, []), at)
            if isinstance(node, ast.ClassDef):
                self.assertEqual((node.decorator_list, node.keywords), ([], []), at)
                self.assertLessEqual(len(node.bases), 1, at)
                for row in node.body:
                    self.assertIsInstance(row, (ast.FunctionDef, ast.Pass), at)

    def test_names(self):
        for path, tree in self.trees.items():
            for name, node in bound_names(tree):
                at = f"{path.name}:{node.lineno}: {name}"
                self.assertTrue(name in TWO_UNDERSCORES or not name.startswith("_"), at)
                self.assertNotIn(name, NOT_USED, at)
                if not (isinstance(node, ast.FunctionDef) and name in TWO_UNDERSCORES):
                    self.assertFalse(hasattr(builtins, name), at)
            bound = {name for name, _ in bound_names(tree)}
            for node in ast.walk(tree):
                if isinstance(node, ast.Name) and node.id not in bound:
                    self.assertIn(node.id, OWN_NAMES, f"{path.name}:{node.lineno}")

    def test_methods(self):
        own = {name for tree in self.trees.values() for name, _ in bound_names(tree)}
        for at, node in self.nodes():
            if isinstance(node, ast.Call) and isinstance(node.func, ast.Attribute):
                self.assertIn(node.func.attr, METHODS | own | {"__init__"}, at)
            if isinstance(node, ast.Attribute):
                self.assertNotIn(node.attr, NOT_USED | {"format", "format_map", "sort"}, at)


if __name__ == "__main__":
    unittest.main()
