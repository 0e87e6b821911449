"""The package's files keep to the part of Python that the program is written in."""

import ast
import builtins
import pathlib
import re
import unittest

PACKAGE = pathlib.Path(__file__).resolve().parent.parent / "patterntables"
FILES = sorted(path for path in PACKAGE.rglob("*") if path.is_file() and "__pycache__" not in path.parts)

STATEMENTS = (ast.Assign, ast.AugAssign, ast.If, ast.While, ast.For, ast.Return, ast.Break, ast.Continue, ast.Pass,
              ast.Raise, ast.Try, ast.Expr, ast.FunctionDef, ast.ClassDef, ast.ImportFrom)
BEYOND = (ast.SetComp, ast.DictComp, ast.GeneratorExp, ast.NamedExpr, ast.Starred, ast.Div, ast.Await, ast.Yield,
          ast.YieldFrom, ast.MatMult)
NAMES = set("""len range enumerate zip min max sum abs sorted reversed int str bool list tuple dict set frozenset
    isinstance ord repr any all divmod Exception ValueError TypeError KeyError IndexError LookupError
    ZeroDivisionError ArithmeticError OverflowError RuntimeError NotImplementedError AttributeError
    StopIteration""".split())
METHODS = set("""append clear copy count endswith extend find get index insert isalnum isalpha isdigit islower isspace
    isupper items join keys ljust lower lstrip partition pop remove replace reverse rfind rjust rpartition rsplit
    rstrip setdefault split splitlines startswith strip update upper values zfill bit_length""".split())
WORDS = ("typing typing_extensions enum Enum IntEnum StrEnum Flag IntFlag Generic Protocol ABC ABCMeta namedtuple "
         "NamedTuple TypedDict TYPE_CHECKING abstractmethod").split() + ["type"]


def parsed():
    return [(path, ast.parse(path.read_text(encoding="ascii"))) for path in FILES]


def nodes_of(kinds):
    return [(path.name, node) for path, tree in parsed() for node in ast.walk(tree) if isinstance(node, kinds)]


def bound_names():
    """Every name that is bound or given, with its file."""
    for name, node in nodes_of((ast.FunctionDef, ast.ClassDef)):
        yield name, node.name
    for name, node in nodes_of(ast.arg):
        yield name, node.arg
    for name, node in nodes_of(ast.Name):
        if isinstance(node.ctx, ast.Store):
            yield name, node.id
    for name, node in nodes_of(ast.Attribute):
        if isinstance(node.ctx, ast.Store):
            yield name, node.attr


class Form(unittest.TestCase):
    def test_files(self):
        self.assertIn(PACKAGE / "tables.py", FILES)
        for path in FILES:
            self.assertRegex(path.name, r"^([a-z][a-z0-9_]*|__init__|__main__)\.py$")
            text = path.read_text(encoding="ascii")
            self.assertRegex(text, r"^[\n -~]*\Z")
            self.assertLess(text.count("\n"), 400, path)
            self.assertLessEqual(max(map(len, text.split("\n"))), 120, path)
            for word in WORDS:
                self.assertIsNone(re.search(rf"\b{word}\b", text), (path, word))
            self.assertIsNone(re.search("dataclass|overload|contextmanager", text), path)

    def test_functions_are_small(self):
        for name, node in nodes_of(ast.FunctionDef):
            self.assertLessEqual(node.end_lineno - node.lineno + 1, 40, (name, node.name))
            self.assertEqual(node.decorator_list, [])

    def test_statements_and_expressions(self):
        for name, node in nodes_of(ast.stmt):
            self.assertIsInstance(node, STATEMENTS, (name, node.lineno))
            if isinstance(node, (ast.For, ast.While)):
                self.assertEqual(node.orelse, [])
            if isinstance(node, ast.Assign):
                self.assertEqual(len(node.targets), 1)
        self.assertEqual([(name, node) for name, node in nodes_of(BEYOND)], [])
        for name, node in nodes_of(ast.Constant):
            self.assertIn(type(node.value), (int, str, bool, type(None)), name)
        for name, node in nodes_of(ast.ListComp):
            self.assertEqual(len(node.generators), 1)
            self.assertLessEqual(len(node.generators[0].ifs), 1)

    def test_imports_are_of_the_package_and_run_one_way(self):
        drawn = {}
        for path, tree in parsed():
            modules = [node.module for node in ast.walk(tree) if isinstance(node, ast.ImportFrom)]
            self.assertTrue(all(module.startswith("patterntables.") for module in modules), path)
            drawn[path.stem] = {module.split(".")[1] for module in modules}
        while drawn:
            free = [name for name, others in drawn.items() if not others & set(drawn)]
            self.assertNotEqual(free, [], "files draw from one another")
            drawn = {name: others for name, others in drawn.items() if name not in free}

    def test_names(self):
        for name, bound in bound_names():
            if bound != "__init__":
                self.assertRegex(bound, "^[A-Za-z][A-Za-z0-9_]*$", name)
                self.assertFalse(hasattr(builtins, bound), (name, bound))

    def test_pythons_own_names(self):
        for name, node in nodes_of(ast.Name):
            if isinstance(node.ctx, ast.Load) and hasattr(builtins, node.id):
                self.assertIn(node.id, NAMES, (name, node.lineno))

    def test_methods_and_values(self):
        methods = {part.name for name, node in nodes_of(ast.ClassDef) for part in node.body
                   if isinstance(part, ast.FunctionDef)}
        values = {node.attr for name, node in nodes_of(ast.Attribute) if isinstance(node.ctx, ast.Store)}
        self.assertEqual(methods & values, set())
        for name, node in nodes_of(ast.Attribute):
            if isinstance(node.ctx, ast.Load):
                self.assertIn(node.attr, methods | values | METHODS, (name, node.lineno))


if __name__ == "__main__":
    unittest.main()
