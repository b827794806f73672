"""The package's own files keep to the part of Python that the program is written in."""

import ast
import builtins
import pathlib
import re
import unittest

PACKAGE = pathlib.Path(__file__).resolve().parent.parent / "pumpnet"

NODES = (
    ast.Module, ast.FunctionDef, ast.ClassDef, ast.Return, ast.Assign, ast.AugAssign, ast.For, ast.While, ast.If,
    ast.Raise, ast.Try, ast.ExceptHandler, ast.ImportFrom, ast.Expr, ast.Pass, ast.Break, ast.Continue, ast.BoolOp,
    ast.BinOp, ast.UnaryOp, ast.Lambda, ast.IfExp, ast.Dict, ast.ListComp, ast.Compare, ast.Call, ast.JoinedStr,
    ast.FormattedValue, ast.Constant, ast.Attribute, ast.Subscript, ast.Name, ast.List, ast.Tuple, ast.Slice,
    ast.expr_context, ast.boolop, ast.operator, ast.unaryop, ast.cmpop, ast.comprehension, ast.arguments, ast.arg,
    ast.keyword, ast.alias,
)
BUILTINS = set(
    "len range enumerate zip min max sum abs sorted reversed int str bool list tuple dict set frozenset isinstance"
    " ord repr any all divmod Exception ValueError TypeError KeyError IndexError LookupError ZeroDivisionError"
    " ArithmeticError OverflowError RuntimeError NotImplementedError AttributeError StopIteration".split())
OWN_METHODS = set(
    "append clear copy count endswith extend find get index insert isalnum isalpha isdigit islower isspace isupper"
    " items join keys ljust lower lstrip partition pop remove replace reverse rfind rjust rpartition rsplit rstrip"
    " setdefault split splitlines startswith strip update upper values zfill bit_length".split())
UNUSED = set("register mro elements open input version_info with_traceback add_note format format_map".split())
WORDS = re.compile(
    r"\b(type|typing|typing_extensions|enum|Enum|IntEnum|StrEnum|Flag|IntFlag|Generic|Protocol|ABC|ABCMeta"
    r"|namedtuple|NamedTuple|TypedDict|TYPE_CHECKING|abstractmethod)\b|dataclass|overload|contextmanager")
NO_FILE_NAMES = set("test tests testing site conftest sitecustomize usercustomize".split()) | set(dir(builtins))


def files():
    return sorted(PACKAGE.glob("*.py"))


def trees():
    return [(path.name, ast.parse(path.read_text())) for path in files()]


def bound_names(tree):
    for one in ast.walk(tree):
        if isinstance(one, ast.Name) and isinstance(one.ctx, ast.Store):
            yield one.id
        elif isinstance(one, ast.arg):
            yield one.arg
        elif isinstance(one, (ast.FunctionDef, ast.ClassDef)):
            yield one.name
        elif isinstance(one, ast.Attribute) and isinstance(one.ctx, ast.Store):
            yield one.attr


class LanguageTest(unittest.TestCase):
    def test_only_plain_files_lie_in_the_package(self):
        self.assertTrue((PACKAGE / "__init__.py").is_file())
        for path in PACKAGE.iterdir():
            if path.name != "__pycache__":
                self.assertRegex(path.name, r"\A([a-z][a-z0-9_]*|__init__)\.py\Z")
                self.assertNotIn(path.stem, NO_FILE_NAMES)
                self.assertFalse(path.stem.startswith("test_"))

    def test_signs_and_lengths(self):
        for path in files():
            rows = path.read_bytes().decode().split("\n")
            self.assertLessEqual(len(rows), 401, path.name)
            for row in rows:
                self.assertRegex(row, r"\A[ -~]{0,120}\Z", path.name)
                self.assertIsNone(WORDS.search(row), f"{path.name}: {row}")

    def test_only_listed_forms(self):
        for name, tree in trees():
            for one in ast.walk(tree):
                where = f"{name}:{getattr(one, 'lineno', 0)}: {ast.dump(one)[:80]}"
                self.assertIsInstance(one, NODES, where)
                self.assertNotIsInstance(one, (ast.Div, ast.MatMult), where)
                if isinstance(one, ast.Assign):
                    self.assertEqual(len(one.targets), 1, where)
                if isinstance(one, (ast.For, ast.While)):
                    self.assertEqual(one.orelse, [], where)
                if isinstance(one, ast.FunctionDef):
                    self.assertLessEqual(one.end_lineno - one.lineno + 1, 40, where)
                    self.assertEqual(one.decorator_list, [], where)
                    self.assertEqual([one.args.vararg, one.args.kwarg, one.args.kwonlyargs], [None, None, []], where)
                if isinstance(one, ast.Constant):
                    self.assertIn(type(one.value), (int, str, bool, type(None)), where)
                if isinstance(one, ast.ListComp):
                    self.assertEqual(len(one.generators), 1, where)
                    self.assertLessEqual(len(one.generators[0].ifs), 1, where)

    def test_texts_by_themselves_are_a_files_first_row_alone(self):
        for name, tree in trees():
            for one in ast.walk(tree):
                if isinstance(one, ast.Expr) and not isinstance(one.value, ast.Call):
                    self.assertIs(one, tree.body[0], f"{name}:{one.lineno}")

    def test_imports_are_of_the_packages_own_files(self):
        for name, tree in trees():
            for one in ast.walk(tree):
                if isinstance(one, ast.ImportFrom):
                    self.assertIn(one, tree.body, name)
                    self.assertEqual(one.level, 0, name)
                    self.assertTrue(one.module.startswith("pumpnet."), name)
                    self.assertTrue((PACKAGE / (one.module[len("pumpnet."):] + ".py")).is_file(), name)

    def test_no_two_files_draw_from_one_another(self):
        draws = {
            name[:-3]: [one.module.split(".")[1] for one in tree.body if isinstance(one, ast.ImportFrom)]
            for name, tree in trees()
        }
        settled = []
        while len(settled) < len(draws):
            ready = [name for name in draws if name not in settled and set(draws[name]) <= set(settled)]
            self.assertNotEqual(ready, [], f"round about: {draws}")
            settled += ready

    def test_names(self):
        for name, tree in trees():
            top = {one.name for one in tree.body if isinstance(one, (ast.FunctionDef, ast.ClassDef))}
            for bound in bound_names(tree):
                self.assertRegex(bound, r"\A([A-Za-z][A-Za-z0-9_]*|__init__)\Z", name)
                self.assertNotIn(bound, UNUSED, name)
            for one in ast.walk(tree):
                if isinstance(one, ast.Name) and hasattr(builtins, one.id):
                    self.assertIn(one.id, BUILTINS, name)
                    self.assertIsInstance(one.ctx, ast.Load, name)
                if isinstance(one, ast.arg):
                    self.assertFalse(hasattr(builtins, one.arg), f"{name}: {one.arg}")
                    self.assertNotIn(one.arg, top, name)
                if isinstance(one, ast.Attribute):
                    self.assertNotIn(one.attr, UNUSED, name)

    def test_a_name_is_bound_once_at_a_files_top(self):
        for name, tree in trees():
            bound = []
            for one in tree.body:
                if isinstance(one, (ast.FunctionDef, ast.ClassDef)):
                    bound.append(one.name)
                elif isinstance(one, ast.ImportFrom):
                    bound += [alias.asname or alias.name for alias in one.names]
                elif isinstance(one, ast.Assign):
                    bound.append(one.targets[0].id)
                else:
                    self.assertIsInstance(one, ast.Expr, name)
            self.assertEqual(len(bound), len(set(bound)), name)

    def test_methods_and_values_bear_different_names(self):
        methods, stored, called = set(), set(), set()
        python_own = set().union(*[dir(one) for one in (str, int, list, dict, set, bytes)])
        for _, tree in trees():
            for one in ast.walk(tree):
                if isinstance(one, ast.ClassDef):
                    methods |= {part.name for part in one.body if isinstance(part, ast.FunctionDef)} - {"__init__"}
                    self.assertTrue(all(isinstance(part, ast.FunctionDef) for part in one.body), one.name)
                if isinstance(one, ast.Attribute) and isinstance(one.ctx, ast.Store):
                    stored.add(one.attr)
                if isinstance(one, ast.Call) and isinstance(one.func, ast.Attribute):
                    called.add(one.func.attr)
        self.assertEqual(methods & stored, set())
        self.assertEqual((methods | stored) & python_own, set())
        self.assertEqual(called - methods - OWN_METHODS, set())


if __name__ == "__main__":
    unittest.main()
