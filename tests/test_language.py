"""The plainest of the rules that the package's own code keeps to, looked up in its files."""

import ast
import builtins
import pathlib
import re
import unittest

PACKAGE = pathlib.Path(__file__).resolve().parent.parent / "mixform"
FILES = sorted(PACKAGE.rglob("*.py"))
OWN_NAMES = set("""len range enumerate zip min max sum abs sorted reversed int str bool bytes list tuple dict set
    frozenset isinstance ord repr any all divmod Exception ValueError TypeError KeyError IndexError LookupError
    ZeroDivisionError ArithmeticError OverflowError RuntimeError NotImplementedError AttributeError
    StopIteration""".split())
WORDS = r"\b(type|typing|typing_extensions|enum|Enum|IntEnum|StrEnum|Flag|IntFlag|Generic|Protocol|ABC|ABCMeta" \
    r"|namedtuple|NamedTuple|TypedDict|TYPE_CHECKING|abstractmethod)\b|dataclass|overload|contextmanager"
FORBIDDEN = (ast.With, ast.Match, ast.Global, ast.Nonlocal, ast.Yield, ast.YieldFrom, ast.AsyncFunctionDef,
             ast.AsyncFor, ast.AsyncWith, ast.Await, ast.GeneratorExp, ast.NamedExpr, ast.Div, ast.Import)


def nodes(kind):
    for path in FILES:
        for node in ast.walk(ast.parse(path.read_text(encoding="utf-8"))):
            if isinstance(node, kind):
                yield f"{path.name}:{getattr(node, 'lineno', 0)}", node


class Language(unittest.TestCase):
    def test_there_is_code(self):
        self.assertGreaterEqual({path.name for path in FILES}, {"__init__.py", "forms.py"})

    def test_rows_and_signs(self):
        for path in FILES:
            rows = path.read_text(encoding="utf-8").split("\n")
            self.assertLessEqual(len(rows), 401, path.name)
            for at, row in enumerate(rows, 1):
                self.assertRegex(row, r"\A[ -~]{0,120}\Z", f"{path.name}:{at}")
                self.assertIsNone(re.search(WORDS, row), f"{path.name}:{at}")

    def test_functions_are_short_and_plain(self):
        for where, node in nodes(ast.FunctionDef):
            self.assertLessEqual(node.end_lineno - node.lineno + 1, 40, where)
            self.assertEqual(node.decorator_list, [], where)
            self.assertEqual((node.args.vararg, node.args.kwarg, node.args.posonlyargs), (None, None, []), where)

    def test_statements_and_expressions(self):
        for where, node in nodes(FORBIDDEN):
            self.fail(f"{where}: {node}")
        for where, node in nodes((ast.For, ast.While)):
            self.assertEqual(node.orelse, [], where)
        for where, node in nodes(ast.Constant):
            self.assertNotIsInstance(node.value, (float, complex), where)

    def test_names(self):
        for where, node in nodes(ast.Name):
            self.assertRegex(node.id, r"\A[A-Za-z]", where)
            if hasattr(builtins, node.id):
                self.assertIn(node.id, OWN_NAMES, where)
                self.assertIsInstance(node.ctx, ast.Load, where)
        for where, node in nodes(ast.arg):
            self.assertFalse(hasattr(builtins, node.arg), where)

    def test_imports(self):
        for where, node in nodes(ast.ImportFrom):
            self.assertEqual(node.level, 0, where)
            self.assertRegex(node.module, r"\A(mixform\.\w+|__future__)\Z", where)
            self.assertNotIn("*", [name.name for name in node.names], where)


if __name__ == "__main__":
    unittest.main()
