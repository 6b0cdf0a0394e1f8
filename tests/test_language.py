"""The plainest of the rules that the package's own code keeps to, looked up in its files."""

import ast
import builtins
import pathlib
import re
import unittest

PACKAGE = pathlib.Path(__file__).resolve().parent.parent / "mixform"
FILES = sorted(PACKAGE.rglob("*.py"))
OWN_NAMES = set("""len range enumerate zip min max sum abs sorted reversed int str bool bytes list tuple dict set
    frozenset isinstance ord repr any all divmod Exception ValueError TypeError KeyError IndexError LookupError
    ZeroDivisionError ArithmeticError OverflowError RuntimeError NotImplementedError AttributeError
    StopIteration""".split())
WORDS = r"\b(type|typing|typing_extensions|enum|Enum|IntEnum|StrEnum|Flag|IntFlag|Generic|Protocol|ABC|ABCMeta" \
    r"|namedtuple|NamedTuple|TypedDict|TYPE_CHECKING|abstractmethod)\b|dataclass|overload|contextmanager"
FORBIDDEN = (ast.With, ast.Match, ast.Global, ast.Nonlocal, ast.Yield, ast.YieldFrom, ast.AsyncFunctionDef,
             ast.AsyncFor, ast.AsyncWith, ast.Await, ast.GeneratorExp, ast.NamedExpr, ast.Div, ast.Import)
METHODS = set("""append clear copy count endswith extend find get index insert isalnum isalpha isdigit islower isspace
    isupper items join keys ljust lower lstrip partition pop remove replace reverse rfind rjust rpartition rsplit rstrip
    setdefault split splitlines startswith strip update upper values zfill bit_length add discard sort""".split())
WALKED = {"zip", "enumerate", "reversed", "range", "items", "keys", "values"}


def nodes(kind):
    for path in FILES:
        for node in ast.walk(ast.parse(path.read_text(encoding="utf-8"))):
            if isinstance(node, kind):
                yield f"{path.name}:{getattr(node, 'lineno', 0)}", node


class Language(unittest.TestCase):
    def test_there_is_code(self):
        self.assertGreaterEqual({path.name for path in FILES}, {"__init__.py", "forms.py"})

    def test_rows_and_signs(self):
        for path in FILES:
            rows = path.read_text(encoding="utf-8").split("\n")
            self.assertLessEqual(len(rows), 401, path.name)
            for at, row in enumerate(rows, 1):
                self.assertRegex(row, r"\A[ -~]{0,120}\Z", f"{path.name}:{at}")
                self.assertIsNone(re.search(WORDS, row), f"{path.name}:{at}")

    def test_functions_are_short_and_plain(self):
        for where, node in nodes(ast.FunctionDef):
            self.assertLessEqual(node.end_lineno - node.lineno + 1, 40, where)
            self.assertEqual(node.decorator_list, [], where)
            self.assertEqual((node.args.vararg, node.args.kwarg, node.args.posonlyargs), (None, None, []), where)

    def test_statements_and_expressions(self):
        for where, node in nodes(FORBIDDEN):
            self.fail(f"{where}: {node}")
        for where, node in nodes((ast.For, ast.While)):
            self.assertEqual(node.orelse, [], where)
        for where, node in nodes(ast.Constant):
            self.assertNotIsInstance(node.value, (float, complex), where)

    def test_names(self):
        for where, node in nodes(ast.Name):
            self.assertRegex(node.id, r"\A[A-Za-z]", where)
            if hasattr(builtins, node.id):
                self.assertIn(node.id, OWN_NAMES, where)
                self.assertIsInstance(node.ctx, ast.Load, where)
        for where, node in nodes(ast.arg):
            self.assertFalse(hasattr(builtins, node.arg), where)

    def test_no_name_is_called_like_an_import_or_a_class(self):
        for path in FILES:
            tree = ast.parse(path.read_text(encoding="utf-8"))
            tops = [name.name for node in tree.body if isinstance(node, ast.ImportFrom) for name in node.names]
            tops += [node.name for node in tree.body if isinstance(node, (ast.ClassDef, ast.FunctionDef))]
            self.assertEqual(len(tops), len(set(tops)), path.name)
            given = [node.arg for node in ast.walk(tree) if isinstance(node, ast.arg)]
            names = [node for node in ast.walk(tree) if isinstance(node, ast.Name)]
            given += [node.id for node in names if isinstance(node.ctx, ast.Store)]
            self.assertEqual(set(tops) & set(given), set(), path.name)

    def test_is_stands_beside_none_true_and_false(self):
        for where, node in nodes(ast.Compare):
            for operator, beside in zip(node.ops, node.comparators):
                if isinstance(operator, (ast.Is, ast.IsNot)):
                    self.assertIsInstance(beside, ast.Constant, where)
                    self.assertIn(beside.value, (None, True, False), where)

    def test_methods(self):
        own = {node.name for _, node in nodes(ast.FunctionDef)}
        for where, node in nodes(ast.Call):
            if isinstance(node.func, ast.Attribute):
                self.assertIn(node.func.attr, METHODS | own, where)

    def test_what_is_walked_is_not_kept(self):
        for where, node in nodes((ast.Assign, ast.Return)):
            if isinstance(node.value, ast.Call):
                called = node.value.func
                name = called.attr if isinstance(called, ast.Attribute) else getattr(called, "id", None)
                self.assertNotIn(name, WALKED, where)

    def test_values_and_methods_of_objects_bear_unlike_names(self):
        inner = [part for _, node in nodes(ast.ClassDef) for part in node.body]
        methods = {part.name for part in inner if isinstance(part, ast.FunctionDef)}
        for where, node in nodes(ast.Attribute):
            if isinstance(node.ctx, ast.Store):
                self.assertNotIn(node.attr, methods | METHODS, where)

    def test_imports(self):
        for where, node in nodes(ast.ImportFrom):
            self.assertEqual(node.level, 0, where)
            self.assertRegex(node.module, r"\A(mixform\.\w+|__future__)\Z", where)
            self.assertNotIn("*", [name.name for name in node.names], where)


if __name__ == "__main__":
    unittest.main()
