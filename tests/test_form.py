"""[1] and the form of the package: what it holds, what it draws from, what it binds."""

import ast
import builtins
import pathlib
import re
import subprocess
import sys
import unittest

TOP = pathlib.Path(__file__).resolve().parent.parent
PACKAGE = TOP / "strewn"
FILES = sorted(PACKAGE.rglob("*.py"))

OWN_NAMES = set("""
    len range enumerate zip min max sum abs sorted reversed int str bool list tuple dict set frozenset isinstance
    ord repr any all divmod Exception ValueError TypeError KeyError IndexError LookupError ZeroDivisionError
    ArithmeticError OverflowError RuntimeError NotImplementedError AttributeError StopIteration
""".split())
WORDS_OUT = re.compile(
    r"\b(type|typing|typing_extensions|enum|Enum|IntEnum|StrEnum|Flag|IntFlag|Generic|Protocol|ABC|ABCMeta"
    r"|namedtuple|NamedTuple|TypedDict|TYPE_CHECKING|abstractmethod)\b|dataclass|overload|contextmanager"
)
METHODS = set("""
    append clear copy count endswith extend find get index insert isalnum isalpha isdigit islower isspace isupper
    items join keys ljust lower lstrip partition pop remove replace reverse rfind rjust rpartition rsplit rstrip
    setdefault split splitlines startswith strip update upper values zfill bit_length
""".split())
KINDS_OUT = (
    ast.Import, ast.With, ast.Match, ast.Delete, ast.Global, ast.Nonlocal, ast.Assert, ast.Yield, ast.YieldFrom,
    ast.AsyncFunctionDef, ast.Await, ast.SetComp, ast.DictComp, ast.GeneratorExp, ast.NamedExpr, ast.Starred, ast.Div,
)


def tree_of(file):
    return ast.parse(file.read_text(encoding="ascii"))


def bound_names(tree):
    names = set()
    for node in ast.walk(tree):
        if isinstance(node, (ast.FunctionDef, ast.ClassDef)):
            names.add(node.name)
        elif isinstance(node, ast.arg):
            names.add(node.arg)
        elif isinstance(node, ast.alias):
            names.add(node.asname or node.name)
        elif isinstance(node, ast.ExceptHandler) and node.name:
            names.add(node.name)
        elif isinstance(node, ast.Name) and isinstance(node.ctx, ast.Store):
            names.add(node.id)
    return names


class Files(unittest.TestCase):
    def test_only_files_of_the_program(self):
        self.assertIn(PACKAGE / "__init__.py", FILES)
        for path in PACKAGE.rglob("*"):
            if "__pycache__" not in path.parts:
                self.assertTrue(path.is_dir() or re.fullmatch(r"(__init__|[a-z][a-z0-9_]*)\.py", path.name), path)

    def test_signs_and_lengths(self):
        for file in FILES:
            text = file.read_bytes().decode("ascii")
            self.assertTrue(all(sign == "\n" or " " <= sign <= "~" for sign in text), file)
            self.assertLessEqual(text.count("\n"), 400, file)
            self.assertLessEqual(max([len(line) for line in text.split("\n")]), 120, file)
            self.assertIsNone(WORDS_OUT.search(text), file)

    def test_functions_are_short(self):
        for file in FILES:
            for node in ast.walk(tree_of(file)):
                if isinstance(node, ast.FunctionDef):
                    self.assertLessEqual(node.end_lineno - node.lineno + 1, 40, (file, node.name))


class Language(unittest.TestCase):
    def test_draws_from_the_package_alone(self):
        for file in FILES:
            for node in ast.walk(tree_of(file)):
                if isinstance(node, ast.ImportFrom):
                    self.assertEqual(node.level, 0, file)
                    self.assertTrue(node.module.startswith("strewn."), (file, node.module))

    def test_no_other_names_of_pythons_own(self):
        for file in FILES:
            tree = tree_of(file)
            bound = bound_names(tree)
            self.assertEqual(bound & OWN_NAMES, set(), file)
            used = {node.id for node in ast.walk(tree) if isinstance(node, ast.Name)}
            self.assertEqual(used - bound - OWN_NAMES, set(), file)
            for name in bound:
                self.assertTrue(name == "__init__" or not name.startswith("_"), (file, name))

    def test_nothing_is_called_like_pythons_own(self):
        for file in FILES:
            bound = bound_names(tree_of(file)) - {"__init__"}
            self.assertEqual(bound & set(dir(builtins)), set(), file)

    def test_methods_and_values(self):
        own = set()
        for file in FILES:
            for node in ast.walk(tree_of(file)):
                if isinstance(node, ast.ClassDef):
                    own |= {part.name for part in node.body if isinstance(part, ast.FunctionDef)}
                elif isinstance(node, ast.Attribute) and isinstance(node.ctx, ast.Store):
                    own.add(node.attr)
        for file in FILES:
            for node in ast.walk(tree_of(file)):
                if isinstance(node, ast.Attribute):
                    self.assertIn(node.attr, METHODS | own, file)

    def test_no_name_is_a_method_and_a_value(self):
        methods = set()
        values = set()
        for file in FILES:
            for node in ast.walk(tree_of(file)):
                if isinstance(node, ast.ClassDef):
                    methods |= {part.name for part in node.body if isinstance(part, ast.FunctionDef)}
                elif isinstance(node, ast.Attribute) and isinstance(node.ctx, ast.Store):
                    values.add(node.attr)
        self.assertEqual(methods & values, set())
        # A value is called like nothing that a text, a number, a list or a dict has.
        for kind in (str, int, list, tuple, dict, set, frozenset, bytes, bytearray):
            self.assertEqual((values | methods - {"__init__"}) & set(dir(kind)), set(), kind)

    def test_no_two_files_draw_from_one_another(self):
        drawn = {}
        for file in FILES:
            nodes = [node for node in ast.walk(tree_of(file)) if isinstance(node, ast.ImportFrom)]
            drawn["strewn." + file.stem] = {node.module for node in nodes}
        while drawn:
            ready = [name for name, others in drawn.items() if not others & set(drawn)]
            self.assertNotEqual(ready, [], drawn)
            for name in ready:
                drawn.pop(name)

    def test_names_are_drawn_from_the_file_that_defines_them(self):
        defined = {}
        for file in FILES:
            defined["strewn." + file.stem] = {getattr(node, "name", None) for node in tree_of(file).body}
        for file in FILES:
            tree = tree_of(file)
            used = {node.id for node in ast.walk(tree) if isinstance(node, ast.Name)}
            for node in ast.walk(tree):
                if isinstance(node, ast.ImportFrom):
                    names = {alias.name for alias in node.names}
                    self.assertEqual(names - defined[node.module], set(), file)
                    self.assertEqual(names - used, set(), file)

    def test_is_and_powers(self):
        for file in FILES:
            for node in ast.walk(tree_of(file)):
                if isinstance(node, ast.Compare):
                    for sign, right in zip(node.ops, node.comparators):
                        if isinstance(sign, (ast.Is, ast.IsNot)):
                            self.assertIn(ast.unparse(right), ("None", "True", "False"), file)
                if isinstance(node, ast.BinOp) and isinstance(node.op, ast.Pow):
                    self.assertIsInstance(node.right, ast.Constant, file)

    def test_one_target_and_no_else_behind_a_loop(self):
        for file in FILES:
            for node in ast.walk(tree_of(file)):
                if isinstance(node, ast.Assign):
                    self.assertEqual(len(node.targets), 1, file)
                if isinstance(node, (ast.For, ast.While)):
                    self.assertEqual(node.orelse, [], file)

    def test_no_kinds_that_are_out(self):
        for file in FILES:
            for node in ast.walk(tree_of(file)):
                self.assertNotIsInstance(node, KINDS_OUT, file)
                if isinstance(node, ast.Constant):
                    self.assertNotIsInstance(node.value, (float, complex, bytes), file)


class Init(unittest.TestCase):
    def test_binds_nothing(self):
        asked = "import strewn; print([name for name in vars(strewn) if not name.startswith('__')])"
        said = subprocess.run([sys.executable, "-c", asked], cwd=TOP, capture_output=True, text=True, check=True)
        self.assertEqual(said.stdout.strip(), "[]")


if __name__ == "__main__":
    unittest.main()
