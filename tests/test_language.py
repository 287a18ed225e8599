"""The package keeps to its part of Python: what can be seen by rule."""

import ast
import builtins
import re
import unittest
from pathlib import Path

PACKAGE = Path(__file__).resolve().parent.parent / "homeranges"
OWN_NAMES = set("""len range enumerate zip min max sum abs sorted reversed int str bool list tuple dict set
    frozenset isinstance ord repr any all divmod Exception ValueError TypeError KeyError IndexError LookupError
    ZeroDivisionError ArithmeticError OverflowError RuntimeError NotImplementedError AttributeError
    StopIteration""".split())
METHODS = set("""append clear copy count endswith extend find get index insert isalnum isalpha isdigit islower
    isspace isupper items join keys ljust lower lstrip partition pop remove replace reverse rfind rjust
    rpartition rsplit rstrip setdefault split splitlines startswith strip update upper values zfill
    bit_length""".split())
OUT_WORDS = re.compile(r"\b(type|typing|typing_extensions|enum|Enum|IntEnum|StrEnum|Flag|IntFlag|Generic|Protocol"
                       r"|ABC|ABCMeta|namedtuple|NamedTuple|TypedDict|TYPE_CHECKING|abstractmethod)\b"
                       r"|dataclass|overload|contextmanager")
OUT_NAMES = set("""register mro elements open input version_info with_traceback add_note attrgetter breakpoint builtins
    compile copyright credits delattr dir eval exec exit gc getattr globals hasattr help id importlib license locals
    methodcaller os quit setattr super type vars sys print chr""".split())
OUT_NODES = (ast.With, ast.Match, ast.Delete, ast.Global, ast.Nonlocal, ast.Assert, ast.Yield, ast.YieldFrom,
             ast.AsyncFunctionDef, ast.Await, ast.SetComp, ast.DictComp, ast.GeneratorExp, ast.NamedExpr,
             ast.Starred, ast.Div, ast.Import, ast.AnnAssign, ast.MatMult)


def files():
    return sorted(PACKAGE.glob("*.py"))


def nodes():
    for path in files():
        for node in ast.walk(ast.parse(path.read_text(encoding="utf-8"))):
            yield path.name, node


class Language(unittest.TestCase):
    def test_only_plain_files(self):
        names = [path.name for path in PACKAGE.iterdir() if path.name != "__pycache__"]
        self.assertIn("__init__.py", names)
        for name in names:
            self.assertRegex(name, r"^[a-z0-9_]+\.py$")

    def test_signs_and_sizes(self):
        for path in files():
            text = path.read_text(encoding="utf-8")
            self.assertRegex(text, r"\A[ -~\n]*\Z")
            self.assertIsNone(OUT_WORDS.search(text), path.name)
            self.assertLessEqual(len(text.splitlines()), 400)
            self.assertLessEqual(max(len(line) for line in text.splitlines()), 120)

    def test_statements_and_expressions(self):
        for name, node in nodes():
            where = (name, getattr(node, "lineno", 0))
            self.assertNotIsInstance(node, OUT_NODES, where)
            if isinstance(node, ast.Assign):
                self.assertEqual(len(node.targets), 1, where)
            if isinstance(node, (ast.For, ast.While)):
                self.assertEqual(node.orelse, [], where)
            if isinstance(node, ast.Try):
                self.assertEqual(node.finalbody, [], where)
            if isinstance(node, ast.Constant):
                self.assertNotIsInstance(node.value, (float, bytes, complex), where)
            if isinstance(node, ast.Compare) and any(isinstance(op, (ast.Is, ast.IsNot)) for op in node.ops):
                self.assertIsInstance(node.comparators[0], ast.Constant, where)
            if isinstance(node, ast.ListComp):
                self.assertEqual(len(node.generators), 1, where)
                self.assertLessEqual(len(node.generators[0].ifs), 1, where)

    def test_imports(self):
        defined = {}
        for path in files():
            tree = ast.parse(path.read_text(encoding="utf-8"))
            own = {node.name for node in tree.body if isinstance(node, (ast.FunctionDef, ast.ClassDef))}
            values = {node.targets[0].id for node in tree.body if isinstance(node, ast.Assign)}
            defined["homeranges." + path.stem] = own | values
        for name, node in nodes():
            if isinstance(node, ast.ImportFrom):
                self.assertEqual(node.level, 0, name)
                self.assertNotEqual(name, "__init__.py")
                self.assertLessEqual({alias.name for alias in node.names}, defined[node.module], name)

    def test_functions(self):
        for name, node in nodes():
            if isinstance(node, ast.FunctionDef):
                self.assertLessEqual(node.end_lineno - node.lineno + 1, 40, (name, node.name))
                self.assertEqual(node.decorator_list, [], (name, node.name))
                given = node.args
                self.assertFalse(given.vararg or given.kwarg or given.kwonlyargs or given.posonlyargs, node.name)

    def test_no_local_is_called_like_an_import(self):
        for path in files():
            tree = ast.parse(path.read_text(encoding="utf-8"))
            drawn = {alias.name for node in tree.body if isinstance(node, ast.ImportFrom) for alias in node.names}
            stored = {node.id for node in ast.walk(tree) if isinstance(node, ast.Name)
                      and isinstance(node.ctx, ast.Store)}
            given = {node.arg for node in ast.walk(tree) if isinstance(node, ast.arg)}
            self.assertEqual(drawn & (stored | given), set(), path.name)

    def test_names(self):
        for name, node in nodes():
            where = (name, getattr(node, "lineno", 0))
            if isinstance(node, ast.Name):
                self.assertNotIn(node.id, OUT_NAMES, where)
                self.assertFalse(node.id.startswith("_"), where)
                if hasattr(builtins, node.id):
                    self.assertIn(node.id, OWN_NAMES, where)
                    self.assertIsInstance(node.ctx, ast.Load, where)
            if isinstance(node, ast.arg):
                self.assertFalse(hasattr(builtins, node.arg) or node.arg.startswith("_"), where)
            if isinstance(node, ast.Attribute):
                self.assertIn(node.attr, METHODS, where)


if __name__ == "__main__":
    unittest.main()
