"""The package keeps to its small part of Python; the rules' numbers are those of LANGUAGE.md."""

import ast
import pathlib
import re
import unittest

PACKAGE = pathlib.Path(__file__).resolve().parent.parent / "whohaswhat"

STATEMENTS = (ast.Assign, ast.AugAssign, ast.If, ast.While, ast.For, ast.Return, ast.Break, ast.Continue, ast.Pass,
              ast.Raise, ast.Try, ast.Expr, ast.FunctionDef, ast.ClassDef, ast.ImportFrom)
EXPRESSIONS = (ast.Constant, ast.Name, ast.Attribute, ast.Subscript, ast.Slice, ast.Call, ast.BinOp, ast.UnaryOp,
               ast.BoolOp, ast.Compare, ast.IfExp, ast.List, ast.Tuple, ast.Dict, ast.Set, ast.ListComp, ast.Lambda,
               ast.JoinedStr, ast.FormattedValue)
OWN_NAMES = set("""len range enumerate zip min max sum abs sorted reversed int str bool list tuple dict set frozenset
    isinstance ord repr any all divmod Exception ValueError TypeError KeyError IndexError LookupError
    ZeroDivisionError ArithmeticError OverflowError RuntimeError NotImplementedError AttributeError
    StopIteration""".split())
METHODS = set("""append clear copy count endswith extend find get index insert isalnum isalpha isdigit islower isspace
    isupper items join keys ljust lower lstrip partition pop remove replace reverse rfind rjust rpartition rsplit
    rstrip setdefault split splitlines startswith strip update upper values zfill bit_length""".split())
WORDS_OUT = set("""type typing typing_extensions enum Enum IntEnum StrEnum Flag IntFlag Generic Protocol ABC ABCMeta
    namedtuple NamedTuple TypedDict TYPE_CHECKING abstractmethod register mro elements open input""".split())


def files():
    return sorted(PACKAGE.glob("*.py"))


def nodes_of(path):
    return list(ast.walk(ast.parse(path.read_text(encoding="utf-8"))))


def top_names(stem):
    """The names that a file defines at its top."""
    top = ast.parse((PACKAGE / f"{stem}.py").read_text(encoding="utf-8")).body
    found = {node.name for node in top if isinstance(node, (ast.FunctionDef, ast.ClassDef))}
    return found | {node.targets[0].id for node in top if isinstance(node, ast.Assign)}


def bound_names(nodes):
    """Every name that is given a meaning somewhere in a file."""
    found = set()
    for node in nodes:
        if isinstance(node, ast.Name) and isinstance(node.ctx, ast.Store):
            found.add(node.id)
        if isinstance(node, ast.arg):
            found.add(node.arg)
        if isinstance(node, (ast.FunctionDef, ast.ClassDef)):
            found.add(node.name)
        if isinstance(node, ast.ImportFrom):
            found.update(alias.asname or alias.name for alias in node.names)
    return found


class LanguageTest(unittest.TestCase):

    def test_files_and_signs(self):
        """L1, L10, L14, L17."""
        tracked = [path for path in PACKAGE.iterdir() if path.name != "__pycache__"]
        self.assertEqual(sorted(tracked), files())
        for path in files():
            text = path.read_text(encoding="utf-8")
            self.assertRegex(path.name, r"\A(__init__|[a-z][a-z0-9_]*)\.py\Z")
            self.assertTrue(all(sign == "\n" or " " <= sign <= "~" for sign in text), path)
            lines = text.splitlines()
            self.assertLessEqual(len(lines), 400, path)
            self.assertLessEqual(max(len(line) for line in lines), 120, path)
            self.assertFalse(WORDS_OUT & set(re.findall(r"\w+", text)), path)

    def test_imports(self):
        """L2, L16: the package's own names, from the file that defines them, and never in a ring."""
        drawn = {}
        for path in files():
            drawn[path.stem] = set()
            for node in nodes_of(path):
                self.assertNotIsInstance(node, ast.Import, path)
                if isinstance(node, ast.ImportFrom):
                    self.assertRegex(node.module, r"\Awhohaswhat\.\w+\Z")
                    source = node.module.split(".")[1]
                    drawn[path.stem].add(source)
                    self.assertLessEqual({alias.name for alias in node.names}, top_names(source), path)
        while drawn:
            free = [name for name, sources in drawn.items() if not sources & set(drawn)]
            self.assertTrue(free, drawn)
            for name in free:
                drawn.pop(name)

    def test_statements_and_expressions(self):
        """L4, L5, L6, L7, L20, L27."""
        for path in files():
            for node in nodes_of(path):
                place = (path.name, getattr(node, "lineno", None))
                if isinstance(node, ast.stmt):
                    self.assertIsInstance(node, STATEMENTS, place)
                if isinstance(node, ast.expr):
                    self.assertIsInstance(node, EXPRESSIONS, place)
                if isinstance(node, (ast.For, ast.While)):
                    self.assertFalse(node.orelse, place)
                if isinstance(node, ast.Assign):
                    self.assertEqual(len(node.targets), 1, place)
                if isinstance(node, (ast.FunctionDef, ast.ClassDef)):
                    self.assertFalse(node.decorator_list, place)
                if isinstance(node, ast.FunctionDef):
                    self.assertLessEqual(node.end_lineno - node.lineno + 1, 40, place)
                    self.assertFalse(node.args.vararg or node.args.kwarg or node.args.kwonlyargs, place)
                if isinstance(node, ast.Constant):
                    self.assertIn(type(node.value), (int, str, bool, type(None)), place)
                if isinstance(node, ast.BinOp):
                    self.assertNotIsInstance(node.op, (ast.Div, ast.Pow, ast.MatMult), place)
                if isinstance(node, ast.ListComp):
                    self.assertEqual(len(node.generators), 1, place)
                    self.assertLessEqual(len(node.generators[0].ifs), 1, place)
                if isinstance(node, ast.Compare) and any(isinstance(op, (ast.Is, ast.IsNot)) for op in node.ops):
                    self.assertIn(node.comparators[0].value, (None, True, False), place)

    def test_names(self):
        """L8, L12, L15, L25."""
        builtin = set(dir(__import__("builtins")))
        for path in files():
            nodes = nodes_of(path)
            bound = bound_names(nodes)
            self.assertFalse(bound & builtin, path)
            for name in bound - {"__init__"}:
                self.assertRegex(name, r"\A[A-Za-z][A-Za-z0-9_]*\Z")
            for node in nodes:
                if isinstance(node, ast.Name) and node.id not in bound:
                    self.assertIn(node.id, OWN_NAMES, (path.name, node.lineno))
                if isinstance(node, ast.Call) and isinstance(node.func, ast.Attribute):
                    self.assertIn(node.func.attr, METHODS, (path.name, node.lineno))
