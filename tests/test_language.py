"""The package keeps to a small part of Python; what of that a look at its files can tell is held here."""

import ast
import builtins
import pathlib
import re
import unittest

PACKAGE = pathlib.Path(__file__).resolve().parent.parent / "cutnotation"
STATEMENTS = (
    ast.FunctionDef, ast.ClassDef, ast.ImportFrom, ast.Assign, ast.AugAssign, ast.If, ast.While, ast.For, ast.Return,
    ast.Break, ast.Continue, ast.Pass, ast.Raise, ast.Try, ast.Expr,
)
FORBIDDEN = (
    ast.SetComp, ast.DictComp, ast.GeneratorExp, ast.NamedExpr, ast.Starred, ast.Div, ast.MatMult, ast.Yield, ast.YieldFrom,
    ast.Await, ast.AnnAssign,
)
OWN_NAMES = set(
    "len range enumerate zip min max sum abs sorted reversed int str bool list tuple dict set frozenset isinstance ord repr "
    "any all divmod Exception ValueError TypeError KeyError IndexError LookupError ZeroDivisionError ArithmeticError "
    "OverflowError RuntimeError NotImplementedError AttributeError StopIteration".split())
NOT_NAMES = set(
    "register mro elements open input version_info with_traceback add_note attrgetter breakpoint builtins compile copyright "
    "credits delattr dir eval exec exit gc getattr globals hasattr help id importlib license locals methodcaller os quit "
    "setattr super type vars sys __name__ format format_map".split())
NOT_WORDS = re.compile(
    r"\b(type|typing|typing_extensions|enum|Enum|IntEnum|StrEnum|Flag|IntFlag|Generic|Protocol|ABC|ABCMeta|namedtuple|"
    r"NamedTuple|TypedDict|TYPE_CHECKING|abstractmethod)\b|dataclass|overload|contextmanager")
METHODS = set(
    "append clear copy count endswith extend find get index insert isalnum isalpha isdigit islower isspace isupper items join "
    "keys ljust lower lstrip partition pop remove replace reverse rfind rjust rpartition rsplit rstrip setdefault split "
    "splitlines startswith strip update upper values zfill bit_length".split())


def sources():
    return sorted(PACKAGE.rglob("*.py"))


def nodes():
    return [(path.name, node) for path in sources() for node in ast.walk(ast.parse(path.read_text("ascii")))]


def bound_names(node):
    if isinstance(node, (ast.FunctionDef, ast.ClassDef)):
        return [node.name]
    if isinstance(node, ast.arg):
        return [node.arg]
    if isinstance(node, ast.Name) and isinstance(node.ctx, ast.Store):
        return [node.id]
    return []


class Language(unittest.TestCase):
    def test_files(self):
        names = {path.name for path in PACKAGE.iterdir()} - {"__pycache__"}
        self.assertEqual(names, {path.name for path in sources()})
        for name in names:
            self.assertRegex(name, r"\A(__init__|[a-z][a-z0-9_]*)\.py\Z")

    def test_rows_and_signs(self):
        for path in sources():
            rows = path.read_text("utf-8").split("\n")
            self.assertLess(len(rows), 400, path.name)
            for row in rows:
                self.assertRegex(row, r"\A[ -~]{0,120}\Z", path.name)
                self.assertNotRegex(row, NOT_WORDS, path.name)

    def test_size_of_functions(self):
        for name, node in nodes():
            if isinstance(node, ast.FunctionDef):
                self.assertLessEqual(node.end_lineno - node.lineno + 1, 40, (name, node.name))
                self.assertFalse(node.decorator_list or node.args.vararg or node.args.kwarg or node.args.kwonlyargs)
                self.assertFalse(node.returns or any(arg.annotation for arg in node.args.args))

    def test_statements_and_values(self):
        for name, node in nodes():
            where = (name, getattr(node, "lineno", 0))
            self.assertFalse(isinstance(node, ast.stmt) and not isinstance(node, STATEMENTS), where)
            self.assertNotIsInstance(node, FORBIDDEN, where)
            if isinstance(node, ast.Assign):
                self.assertEqual(len(node.targets), 1, where)
            if isinstance(node, (ast.For, ast.While)):
                self.assertEqual(node.orelse, [], where)
            if isinstance(node, ast.Constant):
                self.assertNotIsInstance(node.value, (float, complex, bytes), where)

    def test_imports_are_the_packages_own(self):
        for name, node in nodes():
            if isinstance(node, ast.ImportFrom):
                self.assertEqual(node.level, 0, name)
                self.assertRegex(node.module, r"\Acutnotation\.[a-z]+\Z", name)
                self.assertNotIn("*", [alias.name for alias in node.names], name)

    def test_names(self):
        known = set(dir(builtins))
        for name, node in nodes():
            for bound in bound_names(node):
                self.assertFalse(bound in known or bound in NOT_NAMES, (name, bound))
                self.assertTrue(bound == "__init__" or not bound.startswith("_"), (name, bound))
            if isinstance(node, ast.Name) and node.id in known:
                self.assertIn(node.id, OWN_NAMES, name)
            if isinstance(node, ast.Attribute):
                self.assertNotIn(node.attr, NOT_NAMES, name)

    def test_methods(self):
        for name, node in nodes():
            if isinstance(node, ast.Call) and isinstance(node.func, ast.Attribute):
                self.assertIn(node.func.attr, METHODS, name)

    def test_no_local_is_called_like_an_import(self):
        for path in sources():
            tree = ast.parse(path.read_text("ascii"))
            imported = {alias.name for node in tree.body if isinstance(node, ast.ImportFrom) for alias in node.names}
            imported |= {node.name for node in tree.body if isinstance(node, ast.ClassDef)}
            for function in [node for node in ast.walk(tree) if isinstance(node, ast.FunctionDef)]:
                names = {bound for node in ast.walk(function) if node is not function for bound in bound_names(node)}
                self.assertEqual(names & imported, set(), (path.name, function.name))


if __name__ == "__main__":
    unittest.main()
