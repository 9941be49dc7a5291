"""Those rules of the language document that are easily checked by a program."""

import ast
import builtins
import pathlib
import re
import unittest

PACKAGE = pathlib.Path(__file__).resolve().parent.parent / "overlooks"
FILES = sorted(PACKAGE.glob("*.py"))

BUILTINS = set(
    "len range enumerate zip min max sum abs sorted reversed int str bool bytes list tuple dict"
    " set frozenset isinstance ord repr any all divmod iter next super property staticmethod"
    " classmethod Exception ValueError TypeError KeyError IndexError LookupError"
    " ZeroDivisionError ArithmeticError OverflowError RuntimeError NotImplementedError"
    " AttributeError StopIteration NotImplemented".split()
)
# The words that L17 bars even from comments and strings.
BARRED = re.compile(
    r"\b(type|typing|typing_extensions|enum|Enum|IntEnum|StrEnum|Flag|IntFlag|Generic|Protocol"
    r"|ABC|ABCMeta|namedtuple|NamedTuple|TypedDict|TYPE_CHECKING|abstractmethod)\b"
    r"|dataclass|overload|contextmanager"
)
FUNCTIONS = (ast.FunctionDef, ast.AsyncFunctionDef)


def imported_names(path):
    tree = ast.parse(path.read_text())
    return [node for node in ast.walk(tree) if isinstance(node, (ast.Import, ast.ImportFrom))]


def defined_names(path):
    for node in ast.parse(path.read_text()).body:
        if isinstance(node, (ast.FunctionDef, ast.ClassDef)):
            yield node.name
        elif isinstance(node, ast.Assign):
            yield from (target.id for target in node.targets)


def bound_names(tree):
    for node in ast.walk(tree):
        if isinstance(node, (*FUNCTIONS, ast.ClassDef)):
            yield node.name
        elif isinstance(node, ast.arg):
            yield node.arg
        elif isinstance(node, ast.Name) and isinstance(node.ctx, ast.Store):
            yield node.id
        elif isinstance(node, ast.Attribute):
            yield node.attr


class Language(unittest.TestCase):
    def each_file(self):
        for path in FILES:
            text = path.read_text()
            yield path, text, ast.parse(text)

    def test_the_folder_contains_plain_files_only(self):
        self.assertIn(PACKAGE / "__init__.py", FILES)
        for path in PACKAGE.iterdir():
            if path.name != "__pycache__":
                self.assertRegex(path.name, r"^([a-z][a-z0-9_]*|__init__|__main__)\.py$")

    def test_sizes(self):
        for path, text, tree in self.each_file():
            lines = text.split("\n")
            self.assertLessEqual(len(lines), 400, path.name)
            self.assertLessEqual(max(map(len, lines)), 120, path.name)
            for node in ast.walk(tree):
                if isinstance(node, FUNCTIONS):
                    self.assertLessEqual(node.end_lineno - node.lineno + 1, 40, node.name)

    def test_characters(self):
        for path, text, tree in self.each_file():
            self.assertRegex(text, r"\A[ -~\n]*\Z", path.name)
            for node in ast.walk(tree):
                if isinstance(node, ast.Constant) and isinstance(node.value, str):
                    self.assertNotIn("%", node.value, path.name)

    def test_barred_words(self):
        for path, text, _ in self.each_file():
            self.assertIsNone(BARRED.search(text), path.name)

    def test_imports_name_the_file_that_defines_the_name(self):
        for path, _, _ in self.each_file():
            for node in imported_names(path):
                self.assertIsInstance(node, ast.ImportFrom, path.name)
                self.assertEqual(node.level, 0, path.name)
                self.assertRegex(node.module, r"^overlooks\.[a-z_]+$", path.name)
                source = PACKAGE / (node.module.partition(".")[2] + ".py")
                for alias in node.names:
                    self.assertIn(alias.name, list(defined_names(source)))

    def test_imports_form_no_circle(self):
        left = {
            path.stem: {node.module.partition(".")[2] for node in imported_names(path)}
            for path in FILES
        }
        while left:
            free = [name for name, needs in left.items() if not needs & set(left)]
            self.assertTrue(free, left)
            for name in free:
                del left[name]

    def test_names(self):
        allowed = re.compile(r"^([A-Za-z][A-Za-z0-9_]*|__[a-z]+__)$")
        for path, _, tree in self.each_file():
            for name in bound_names(tree):
                self.assertRegex(name, allowed, path.name)

    def test_builtins(self):
        for path, _, tree in self.each_file():
            for node in ast.walk(tree):
                if isinstance(node, ast.Name) and hasattr(builtins, node.id):
                    self.assertIn(node.id, BUILTINS, path.name)
                    self.assertIsInstance(node.ctx, ast.Load, path.name)


if __name__ == "__main__":
    unittest.main()
