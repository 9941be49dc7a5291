"""Those rules of the language document that are easily checked by a program."""

import ast
import builtins
import pathlib
import re
import unittest

PACKAGE = pathlib.Path(__file__).resolve().parent.parent / "overlooks"
FILES = sorted(PACKAGE.glob("*.py"))

BUILTINS = set(
    "len range enumerate zip min max sum abs sorted reversed int str bool bytes list tuple dict"
    " set frozenset isinstance ord repr any all divmod iter next super property staticmethod"
    " classmethod Exception ValueError TypeError KeyError IndexError LookupError"
    " ZeroDivisionError ArithmeticError OverflowError RuntimeError NotImplementedError"
    " AttributeError StopIteration NotImplemented".split()
)
# The words that L17 bars even from comments and strings.
BARRED = re.compile(
    r"\b(type|typing|typing_extensions|enum|Enum|IntEnum|StrEnum|Flag|IntFlag|Generic|Protocol"
    r"|ABC|ABCMeta|namedtuple|NamedTuple|TypedDict|TYPE_CHECKING|abstractmethod)\b"
    r"|dataclass|overload|contextmanager"
)
FUNCTIONS = (ast.FunctionDef, ast.AsyncFunctionDef)
# The methods of builtin values, L25, without translate.
METHODS = set(
    "append clear copy count endswith extend find get index insert isalnum isalpha isdigit islower"
    " isspace isupper items join keys ljust lower lstrip partition pop remove replace reverse rfind"
    " rjust rpartition rsplit rstrip setdefault split splitlines startswith strip update upper"
    " values zfill bit_length isascii isdecimal isnumeric removeprefix removesuffix rindex".split()
)
# L5, as far as the program needs it.
SPECIAL_METHODS = {"__init__", "__eq__", "__repr__", "__len__"}
# L26: attributes may not be called like these.
BARRED_ATTRIBUTES = set(
    "items keys values pop update append clear extend insert remove reverse setdefault sort args"
    " encode decode hex fromhex format".split()
)


def imported_names(path):
    tree = ast.parse(path.read_text())
    return [node for node in ast.walk(tree) if isinstance(node, (ast.Import, ast.ImportFrom))]


def defined_names(path):
    for node in ast.parse(path.read_text()).body:
        if isinstance(node, (ast.FunctionDef, ast.ClassDef)):
            yield node.name
        elif isinstance(node, ast.Assign):
            yield from (target.id for target in node.targets)


def bound_names(tree):
    for node in ast.walk(tree):
        if isinstance(node, (*FUNCTIONS, ast.ClassDef)):
            yield node.name
        elif isinstance(node, ast.arg):
            yield node.arg
        elif isinstance(node, ast.Name) and isinstance(node.ctx, ast.Store):
            yield node.id
        elif isinstance(node, ast.ExceptHandler) and node.name:
            yield node.name


def attribute_names(tree):
    return [node.attr for node in ast.walk(tree) if isinstance(node, ast.Attribute)]


def methods_of(made):
    return [node for node in made.body if isinstance(node, FUNCTIONS)]


def assigned_attributes(tree):
    for node in ast.walk(tree):
        if isinstance(node, ast.Attribute) and isinstance(node.ctx, ast.Store):
            yield node.attr


def is_iterated(value):
    """Whether the value is one that L23 lets stand only where it is iterated."""
    if not isinstance(value, ast.Call):
        return False
    if isinstance(value.func, ast.Name):
        return value.func.id in ("zip", "enumerate", "reversed", "range")
    return isinstance(value.func, ast.Attribute) and value.func.attr in ("items", "keys", "values")


class Language(unittest.TestCase):
    def each_file(self):
        for path in FILES:
            text = path.read_text()
            yield path, text, ast.parse(text)

    def each_class(self):
        for _, _, tree in self.each_file():
            yield from (node for node in tree.body if isinstance(node, ast.ClassDef))

    def test_the_folder_contains_plain_files_only(self):
        self.assertIn(PACKAGE / "__init__.py", FILES)
        for path in PACKAGE.iterdir():
            if path.name != "__pycache__":
                self.assertRegex(path.name, r"^([a-z][a-z0-9_]*|__init__|__main__)\.py$")

    def test_sizes(self):
        for path, text, tree in self.each_file():
            lines = text.split("\n")
            self.assertLessEqual(len(lines), 400, path.name)
            self.assertLessEqual(max(map(len, lines)), 120, path.name)
            for node in ast.walk(tree):
                if isinstance(node, FUNCTIONS):
                    self.assertLessEqual(node.end_lineno - node.lineno + 1, 40, node.name)

    def test_characters(self):
        for path, text, tree in self.each_file():
            self.assertRegex(text, r"\A[ -~\n]*\Z", path.name)
            for node in ast.walk(tree):
                if isinstance(node, ast.Constant) and isinstance(node.value, str):
                    self.assertNotIn("%", node.value, path.name)

    def test_barred_words(self):
        for path, text, _ in self.each_file():
            self.assertIsNone(BARRED.search(text), path.name)

    def test_imports_name_the_file_that_defines_the_name(self):
        for path, _, _ in self.each_file():
            for node in imported_names(path):
                self.assertIsInstance(node, ast.ImportFrom, path.name)
                self.assertEqual(node.level, 0, path.name)
                self.assertRegex(node.module, r"^overlooks\.[a-z_]+$", path.name)
                source = PACKAGE / (node.module.partition(".")[2] + ".py")
                for alias in node.names:
                    self.assertIn(alias.name, list(defined_names(source)))

    def test_imports_form_no_circle(self):
        left = {
            path.stem: {node.module.partition(".")[2] for node in imported_names(path)}
            for path in FILES
        }
        while left:
            free = [name for name, needs in left.items() if not needs & set(left)]
            self.assertTrue(free, left)
            for name in free:
                del left[name]

    def test_names(self):
        allowed = re.compile(r"^([A-Za-z][A-Za-z0-9_]*|__[a-z]+__)$")
        for path, _, tree in self.each_file():
            for name in (*bound_names(tree), *attribute_names(tree)):
                self.assertRegex(name, allowed, path.name)

    def test_builtins(self):
        for path, _, tree in self.each_file():
            for node in ast.walk(tree):
                if isinstance(node, ast.Name) and hasattr(builtins, node.id):
                    self.assertIn(node.id, BUILTINS, path.name)
                    self.assertIsInstance(node.ctx, ast.Load, path.name)

    def test_no_local_name_hides_an_import_or_a_class_or_a_builtin(self):
        for path, _, tree in self.each_file():
            hidden = {alias.name for node in imported_names(path) for alias in node.names}
            hidden |= {node.name for node in tree.body if isinstance(node, ast.ClassDef)}
            for node in ast.walk(tree):
                if isinstance(node, FUNCTIONS):
                    bound = {name for part in (node.args, *node.body) for name in bound_names(part)}
                    self.assertFalse(bound & hidden, path.name)
                    self.assertFalse(bound & set(dir(builtins)), path.name)

    def test_module_level_names_are_bound_once(self):
        for path, _, _ in self.each_file():
            names = [alias.name for node in imported_names(path) for alias in node.names]
            names += defined_names(path)
            self.assertEqual(len(names), len(set(names)), path.name)

    def test_called_methods(self):
        own = {method.name for made in self.each_class() for method in methods_of(made)}
        for path, _, tree in self.each_file():
            for node in ast.walk(tree):
                if isinstance(node, ast.Call) and isinstance(node.func, ast.Attribute):
                    self.assertIn(node.func.attr, METHODS | own, path.name)

    def test_methods_and_attributes_of_classes(self):
        methods, attributes = set(), set()
        for made in self.each_class():
            names = [method.name for method in methods_of(made)]
            self.assertEqual(len(names), len(set(names)), made.name)
            for name in names:
                self.assertTrue(name in SPECIAL_METHODS or not name.startswith("_"), name)
                self.assertTrue(name == "count" or name not in METHODS, name)
            methods |= set(names)
            attributes |= set(assigned_attributes(made))
        self.assertFalse(methods & attributes)
        self.assertFalse(attributes & BARRED_ATTRIBUTES)
        for path, _, tree in self.each_file():
            self.assertLessEqual(set(assigned_attributes(tree)), attributes, path.name)
            for name in attribute_names(tree):
                self.assertIn(name, methods | attributes | METHODS, path.name)

    def test_raised_and_caught_errors(self):
        own = set(defined_names(PACKAGE / "errors.py"))
        for path, _, tree in self.each_file():
            for node in ast.walk(tree):
                if isinstance(node, ast.Raise):
                    self.assertIsInstance(node.exc, ast.Call, path.name)
                    self.assertIn(node.exc.func.id, own, path.name)
                if isinstance(node, ast.ExceptHandler):
                    self.assertIn(node.type.id, own, path.name)

    def test_special_methods_end_with_a_return(self):
        for made in self.each_class():
            for method in methods_of(made):
                if method.name in SPECIAL_METHODS - {"__init__"}:
                    self.assertIsInstance(method.body[-1], ast.Return, made.name)
                if method.name == "__init__":
                    inside = [type(node) for node in ast.walk(method)]
                    self.assertNotIn(ast.Return, inside, made.name)

    def test_views_and_ranges_are_iterated_at_once(self):
        for path, _, tree in self.each_file():
            for node in ast.walk(tree):
                if isinstance(node, (ast.Assign, ast.AugAssign, ast.Return)):
                    self.assertFalse(is_iterated(node.value), path.name)

    def test_powers_are_not_computed(self):
        for path, _, tree in self.each_file():
            for node in ast.walk(tree):
                self.assertNotIsInstance(node, ast.Pow, path.name)

    def test_signs_and_expressions(self):
        # With a class that has __eq__, generator expressions are barred from most places.
        barred = (ast.Div, ast.MatMult, ast.GeneratorExp, ast.Global, ast.Await, ast.AsyncFor)
        for path, _, tree in self.each_file():
            for node in ast.walk(tree):
                self.assertNotIsInstance(node, barred, path.name)
                if isinstance(node, ast.Constant):
                    self.assertNotIsInstance(node.value, (float, complex), path.name)
                if isinstance(node, ast.Compare):
                    for sign, right in zip(node.ops, node.comparators):
                        if isinstance(sign, (ast.Is, ast.IsNot)):
                            self.assertIsInstance(right, ast.Constant, path.name)
                            self.assertIn(right.value, (None, True, False), path.name)


if __name__ == "__main__":
    unittest.main()
