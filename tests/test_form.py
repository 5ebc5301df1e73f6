"""The rules of the language that can be seen row by row; what takes more than a look stays with the reader."""

import ast
import builtins
import pathlib
import re
import unittest

PACKAGE = pathlib.Path(__file__).resolve().parent.parent / "drawndown"
FILES = sorted(path for path in PACKAGE.rglob("*") if path.is_file() and "__pycache__" not in path.parts)

# L8, L12, L15, L17
ALLOWED = set(
    "len range enumerate zip min max sum abs sorted reversed int str bool bytes list tuple dict set frozenset "
    "isinstance ord repr any all divmod Exception ValueError TypeError KeyError IndexError LookupError "
    "ZeroDivisionError ArithmeticError OverflowError RuntimeError NotImplementedError AttributeError "
    "StopIteration".split()
)
UNUSED = set(
    "register mro elements open input version_info with_traceback add_note attrgetter breakpoint builtins compile "
    "delattr dir eval exec exit gc getattr globals hasattr help id importlib locals methodcaller os quit setattr "
    "super sys type vars".split()
)
WORDS = re.compile(
    r"\b(type|typing|typing_extensions|enum|Enum|IntEnum|StrEnum|Flag|IntFlag|Generic|Protocol|ABC|ABCMeta|"
    r"namedtuple|NamedTuple|TypedDict|TYPE_CHECKING|abstractmethod)\b|dataclass|overload|contextmanager"
)
# L6, L7
OUT = (
    ast.With, ast.Match, ast.Global, ast.Nonlocal, ast.Yield, ast.YieldFrom, ast.AsyncFor, ast.AsyncFunctionDef,
    ast.AsyncWith, ast.Await, ast.GeneratorExp, ast.NamedExpr, ast.Div, ast.Import, ast.TryStar,
)
# L25, without the later ones
METHODS = set(
    "append clear copy count endswith extend find get index insert isalnum isalpha isdigit islower isspace isupper "
    "items join keys ljust lower lstrip partition pop remove replace reverse rfind rjust rpartition rsplit rstrip "
    "setdefault split splitlines startswith strip update upper values zfill bit_length".split()
)


def text_of(path):
    return path.read_text(encoding="utf-8")


PARSED = [(path, ast.parse(text_of(path))) for path in FILES if path.suffix == ".py"]


def bound_names(tree):
    for node in ast.walk(tree):
        if isinstance(node, ast.arg):
            yield node.arg
        elif isinstance(node, ast.Name) and isinstance(node.ctx, ast.Store):
            yield node.id
        elif isinstance(node, (ast.FunctionDef, ast.ClassDef)):
            yield node.name


class Form(unittest.TestCase):
    def test_files(self):
        self.assertIn(PACKAGE / "__init__.py", FILES)
        for path in FILES:
            self.assertRegex(path.name, r"\A([a-z][a-z0-9_]*|__init__|__main__)\.py\Z")

    def test_signs_and_lengths(self):
        for path, tree in PARSED:
            with self.subTest(file=path.name):
                rows = text_of(path).split("\n")
                self.assertLessEqual(len(rows), 400)
                for row in rows:
                    self.assertRegex(row, r"\A[ -~]{0,120}\Z")
                    self.assertIsNone(WORDS.search(row), row)
                for node in ast.walk(tree):
                    if isinstance(node, ast.FunctionDef):
                        self.assertLessEqual(node.end_lineno - node.lineno + 1, 40, node.name)

    def test_statements_and_values(self):
        for path, tree in PARSED:
            with self.subTest(file=path.name):
                for node in ast.walk(tree):
                    self.assertNotIsInstance(node, OUT)
                    if isinstance(node, ast.Constant):
                        self.assertNotIsInstance(node.value, (float, complex))
                    if isinstance(node, (ast.FunctionDef, ast.ClassDef)):
                        self.assertEqual(node.decorator_list, [])
                    if isinstance(node, (ast.For, ast.While)):
                        self.assertEqual(node.orelse, [])

    def test_imports(self):
        for path, tree in PARSED:
            with self.subTest(file=path.name):
                for node in ast.walk(tree):
                    if isinstance(node, ast.ImportFrom):
                        self.assertIn(node, tree.body)
                        self.assertEqual(node.level, 0)
                        self.assertRegex(node.module, r"\A(drawndown\.[a-z_]+|__future__)\Z")
                        self.assertNotIn("*", [alias.name for alias in node.names])

    def test_names(self):
        for path, tree in PARSED:
            with self.subTest(file=path.name):
                bound = list(bound_names(tree))
                for name in bound:
                    self.assertNotIn(name, dir(builtins))
                    self.assertNotIn(name, UNUSED)
                    self.assertRegex(name, r"\A([A-Za-z]\w*|__(init|eq|repr|str|len|all|version)__)\Z")
                for node in ast.walk(tree):
                    if isinstance(node, ast.Name) and node.id in dir(builtins):
                        self.assertIn(node.id, ALLOWED)

    def test_no_local_is_called_like_a_class_or_an_import(self):
        for path, tree in PARSED:
            with self.subTest(file=path.name):
                taken = {node.name for node in tree.body if isinstance(node, ast.ClassDef)}
                for node in tree.body:
                    if isinstance(node, ast.ImportFrom):
                        taken |= {alias.asname or alias.name for alias in node.names}
                for node in ast.walk(tree):
                    if isinstance(node, ast.FunctionDef):
                        self.assertEqual(taken & set(bound_names(node)), set(), node.name)

    def test_exponents_are_written(self):
        for path, tree in PARSED:
            for node in ast.walk(tree):
                if isinstance(node, ast.BinOp) and isinstance(node.op, ast.Pow):
                    self.assertIsInstance(node.right, ast.Constant, path.name)
                    self.assertIn(node.right.value, range(65), path.name)

    def test_is_stands_beside_none_true_and_false_alone(self):
        for path, tree in PARSED:
            for node in ast.walk(tree):
                if isinstance(node, ast.Compare) and any(isinstance(sign, (ast.Is, ast.IsNot)) for sign in node.ops):
                    self.assertIsInstance(node.comparators[-1], ast.Constant, path.name)
                    self.assertIn(repr(node.comparators[-1].value), ("None", "True", "False"), path.name)

    def test_methods_and_values(self):
        methods, values = set(), set()
        for path, tree in PARSED:
            for node in ast.walk(tree):
                if isinstance(node, ast.ClassDef):
                    methods |= {each.name for each in node.body if isinstance(each, ast.FunctionDef)}
                if isinstance(node, ast.Attribute) and isinstance(node.ctx, ast.Store):
                    values.add(node.attr)
        self.assertEqual(methods & values, set())
        of_python = {name for kind in (str, int, list, dict, set, bytes, tuple) for name in dir(kind)}
        self.assertEqual((methods | values) & of_python - {"__init__"}, set())
        for path, tree in PARSED:
            called = {node.func for node in ast.walk(tree) if isinstance(node, ast.Call)}
            for node in ast.walk(tree):
                if isinstance(node, ast.Attribute):
                    self.assertIn(node.attr, METHODS | methods if node in called else values, path.name)

    def test_errors_are_made_on_the_spot_and_taken_by_name(self):
        for path, tree in PARSED:
            for node in ast.walk(tree):
                if isinstance(node, ast.Raise):
                    self.assertIsInstance(node.exc, ast.Call, path.name)
                    self.assertRegex(node.exc.func.id, r"\A(No|Not|Ended|Too)", path.name)
                    for words in node.exc.args:
                        self.assertIsInstance(words, ast.Constant, path.name)
                if isinstance(node, ast.ExceptHandler):
                    self.assertRegex(node.type.id, r"\A(No|Not|Ended|Too)", path.name)

    def test_what_is_walked_is_not_kept(self):
        kept = (ast.Assign, ast.Return, ast.Expr)
        for path, tree in PARSED:
            for node in ast.walk(tree):
                value = node.value if isinstance(node, kept) else None
                if isinstance(value, ast.Call) and isinstance(value.func, ast.Name):
                    self.assertNotIn(value.func.id, ("range", "zip", "enumerate", "reversed"), path.name)

    def test_no_two_files_draw_from_one_another(self):
        drawn = {}
        for path, tree in PARSED:
            modules = [node.module for node in ast.walk(tree) if isinstance(node, ast.ImportFrom)]
            drawn["drawndown." + path.stem] = {module for module in modules if module != "__future__"}
        while drawn:
            free = [name for name, modules in drawn.items() if not modules & set(drawn)]
            self.assertNotEqual(free, [], drawn)
            drawn = {name: modules for name, modules in drawn.items() if name not in free}

    def test_each_name_is_drawn_from_the_file_that_defines_it(self):
        defined = {}
        for path, tree in PARSED:
            names = [node.name for node in tree.body if isinstance(node, (ast.FunctionDef, ast.ClassDef))]
            names += [target.id for node in tree.body if isinstance(node, ast.Assign) for target in node.targets]
            defined["drawndown." + path.stem] = names
        for path, tree in PARSED:
            for node in ast.walk(tree):
                if isinstance(node, ast.ImportFrom) and node.module != "__future__":
                    for alias in node.names:
                        self.assertIn(alias.name, defined[node.module], path.name)

    def test_each_name_once_at_the_top(self):
        for path, tree in PARSED:
            with self.subTest(file=path.name):
                names = []
                for node in tree.body:
                    if isinstance(node, (ast.FunctionDef, ast.ClassDef)):
                        names.append(node.name)
                    elif isinstance(node, ast.ImportFrom):
                        names += [alias.asname or alias.name for alias in node.names]
                    elif isinstance(node, ast.Assign):
                        names += [target.id for target in node.targets]
                self.assertEqual(len(names), len(set(names)))


if __name__ == "__main__":
    unittest.main()
