"""Rules of the language subset that can be seen in the files of the package.

These tests cover the rules that are easy to break by accident; they do not
replace reading LANGUAGE.md.
"""

import ast
import builtins
import pathlib
import re
import unittest

FOLDER = pathlib.Path(__file__).parent.parent / "oddrounds"
FILES = sorted(FOLDER.rglob("*.py"))
TREES = {path: ast.parse(path.read_text()) for path in FILES}

ALLOWED_BUILTINS = (
    "len range enumerate zip min max sum abs sorted reversed int str bool bytes list tuple dict set "
    "frozenset isinstance ord repr any all divmod iter next Exception ValueError TypeError KeyError "
    "IndexError LookupError ZeroDivisionError ArithmeticError OverflowError RuntimeError "
    "NotImplementedError AttributeError StopIteration NotImplemented super property staticmethod "
    "classmethod"
).split()
BARRED_WORDS = (
    "type typing typing_extensions enum Enum IntEnum StrEnum Flag IntFlag Generic Protocol ABC ABCMeta "
    "namedtuple NamedTuple TypedDict TYPE_CHECKING abstractmethod"
).split()
BARRED_PARTS = ("dataclass", "overload", "contextmanager")
BARRED_NAMES = "register mro elements open input law version_info with_traceback add_note".split()
ALLOWED_METHODS = (
    "append clear copy count endswith extend find get index insert isalnum isalpha isdigit islower "
    "isspace isupper items join keys ljust lower lstrip partition pop remove replace reverse rfind "
    "rjust rpartition rsplit rstrip setdefault split splitlines startswith strip update upper values "
    "zfill bit_length"
).split()
BUILTIN_KEYWORDS = {
    "sorted": ("key", "reverse"), "min": ("key", "default"), "max": ("key", "default"),
    "sum": ("start",), "enumerate": ("start",), "zip": ("strict",),
}
ITERATED_AT_ONCE = ("zip", "enumerate", "reversed", "range")
ITERATING = ("list", "tuple", "dict", "sorted", "sum", "any", "all", "enumerate", "zip", "min", "max", "len")
BARRED_STATEMENTS = (
    ast.Global, ast.AsyncFunctionDef, ast.AsyncFor, ast.AsyncWith, ast.Await, ast.Import, ast.Div,
)


def nodes():
    for path, tree in TREES.items():
        for node in ast.walk(tree):
            yield path.name, node


def bound_names():
    """Yield all names that the package gives to something."""
    for file, node in nodes():
        if isinstance(node, (ast.FunctionDef, ast.ClassDef)):
            yield file, node.name
        elif isinstance(node, ast.arg):
            yield file, node.arg
        elif isinstance(node, ast.Name) and isinstance(node.ctx, ast.Store):
            yield file, node.id
        elif isinstance(node, ast.Attribute) and isinstance(node.ctx, ast.Store):
            yield file, node.attr
        elif isinstance(node, ast.ExceptHandler) and node.name is not None:
            yield file, node.name


def imported_modules(tree):
    return [node.module for node in tree.body if isinstance(node, ast.ImportFrom)]


class FilesTest(unittest.TestCase):
    def test_the_folder_contains_python_files_only(self):
        for path in FOLDER.rglob("*"):
            if "__pycache__" not in path.parts:
                self.assertTrue(path.is_file() and re.fullmatch(r"[a-z0-9_]+\.py", path.name), path)

    def test_characters(self):
        for path in FILES:
            self.assertIsNone(re.search(rb"[^ -~\n]", path.read_bytes()), path)

    def test_sizes(self):
        for path in FILES:
            lines = path.read_text().splitlines()
            self.assertLessEqual(len(lines), 399, path)
            self.assertLessEqual(max([len(line) for line in lines]), 120, path)
        for file, node in nodes():
            if isinstance(node, ast.FunctionDef):
                self.assertLessEqual(node.end_lineno - node.lineno + 1, 40, (file, node.name))

    def test_barred_words(self):
        for path in FILES:
            text = path.read_text()
            for word in BARRED_WORDS:
                self.assertIsNone(re.search(rf"\b{word}\b", text), (path, word))
            for part in BARRED_PARTS:
                self.assertNotIn(part, text)


class ImportsTest(unittest.TestCase):
    def test_imports_name_the_file_that_defines_the_name(self):
        for file, node in nodes():
            if isinstance(node, ast.ImportFrom):
                self.assertEqual(node.level, 0, file)
                package, module = node.module.split(".")
                self.assertEqual(package, "oddrounds", file)
                tree = TREES[FOLDER / f"{module}.py"]
                defined = [part.name for part in tree.body if hasattr(part, "name")]
                for part in tree.body:
                    if isinstance(part, ast.Assign):
                        defined.append(part.targets[0].id)
                for name in node.names:
                    self.assertIn(name.name, defined, file)

    def test_imports_stand_at_the_top(self):
        for path, tree in TREES.items():
            kinds = [isinstance(part, ast.ImportFrom) for part in tree.body]
            start = 1 if ast.get_docstring(tree) is not None else 0
            many = len(imported_modules(tree))
            self.assertTrue(all(kinds[start:start + many]), path)

    def test_no_files_import_each_other(self):
        wanted = {f"oddrounds.{path.stem}": imported_modules(tree) for path, tree in TREES.items()}
        while wanted:
            free = [name for name in wanted if not [other for other in wanted[name] if other in wanted]]
            self.assertTrue(free, wanted)
            for name in free:
                del wanted[name]


class CodeTest(unittest.TestCase):
    def test_statements(self):
        for file, node in nodes():
            self.assertNotIsInstance(node, BARRED_STATEMENTS, file)

    def test_names_are_plain(self):
        for file, name in bound_names():
            plain = not name.startswith("_") or re.fullmatch(r"__[a-z]+__", name) is not None
            self.assertTrue(plain and name not in BARRED_NAMES, (file, name))

    def test_no_name_of_a_builtin_is_given_away(self):
        for file, name in bound_names():
            if not name.startswith("__"):
                self.assertFalse(hasattr(builtins, name), (file, name))

    def test_only_listed_builtins_are_used(self):
        for file, node in nodes():
            if isinstance(node, ast.Name) and hasattr(builtins, node.id):
                self.assertIn(node.id, ALLOWED_BUILTINS, file)

    def test_constants(self):
        for file, node in nodes():
            if isinstance(node, ast.Constant):
                self.assertNotIsInstance(node.value, (float, complex), file)
                if isinstance(node.value, str):
                    self.assertNotIn("%", node.value, file)

    def test_is_stands_only_beside_none_true_and_false(self):
        for file, node in nodes():
            if isinstance(node, ast.Compare):
                for sign, right in zip(node.ops, node.comparators):
                    if isinstance(sign, (ast.Is, ast.IsNot)):
                        self.assertIsInstance(right, ast.Constant, file)
                        self.assertIn(right.value, (None, True, False), file)

    def test_no_local_name_is_that_of_an_import_or_a_class(self):
        for path, tree in TREES.items():
            taken = [part.name for part in tree.body if isinstance(part, ast.ClassDef)]
            for part in tree.body:
                if isinstance(part, ast.ImportFrom):
                    taken.extend([name.name for name in part.names])
            for node in ast.walk(tree):
                if isinstance(node, ast.arg):
                    self.assertNotIn(node.arg, taken, path)
                if isinstance(node, ast.Name) and isinstance(node.ctx, ast.Store):
                    self.assertNotIn(node.id, taken, path)

    def test_names_at_module_level_are_bound_once(self):
        for path, tree in TREES.items():
            names = []
            for part in tree.body:
                if isinstance(part, ast.ImportFrom):
                    names.extend([name.asname or name.name for name in part.names])
                elif isinstance(part, ast.Assign):
                    names.append(part.targets[0].id)
                elif hasattr(part, "name"):
                    names.append(part.name)
            self.assertEqual(len(names), len(set(names)), path)

    def test_only_listed_methods_of_builtin_values_are_called(self):
        own = [node.name for file, node in nodes() if isinstance(node, ast.FunctionDef)]
        for file, node in nodes():
            if isinstance(node, ast.Call) and isinstance(node.func, ast.Attribute):
                self.assertIn(node.func.attr, (*ALLOWED_METHODS, *own), file)

    def test_keywords_of_builtins(self):
        for file, node in nodes():
            if isinstance(node, ast.Call) and isinstance(node.func, ast.Name):
                if hasattr(builtins, node.func.id):
                    for keyword in node.keywords:
                        allowed = BUILTIN_KEYWORDS.get(node.func.id, ())
                        self.assertIn(keyword.arg, allowed, (file, node.lineno))

    def test_ranges_and_the_like_are_iterated_at_once(self):
        allowed = []
        for file, node in nodes():
            if isinstance(node, (ast.For, ast.comprehension)):
                allowed.append(node.iter)
            elif isinstance(node, ast.Call) and isinstance(node.func, ast.Name):
                if node.func.id in ITERATING and node.args:
                    allowed.extend(node.args if node.func.id == "zip" else node.args[:1])
                if node.func.id == "reversed" and ast.unparse(node.args[0]).startswith("range("):
                    allowed.append(node.args[0])
        for file, node in nodes():
            if isinstance(node, ast.Call) and isinstance(node.func, ast.Name):
                if node.func.id in ITERATED_AT_ONCE:
                    self.assertTrue([part for part in allowed if part is node], (file, node.lineno))

    def test_exponents_are_literal(self):
        for file, node in nodes():
            if isinstance(node, ast.BinOp) and isinstance(node.op, ast.Pow):
                self.assertIsInstance(node.right, ast.Constant, file)
                self.assertTrue(0 <= node.right.value <= 64, file)


class ClassesTest(unittest.TestCase):
    def classes(self):
        return [node for file, node in nodes() if isinstance(node, ast.ClassDef)]

    def methods(self):
        return [part for node in self.classes() for part in node.body if isinstance(part, ast.FunctionDef)]

    def test_double_underscore_methods(self):
        allowed = ("__init__", "__eq__", "__str__", "__len__")
        for method in self.methods():
            if method.name.startswith("__"):
                self.assertIn(method.name, allowed)

    def test_no_name_is_a_method_and_an_attribute(self):
        names = [method.name for method in self.methods()]
        for file, node in nodes():
            if isinstance(node, ast.Attribute) and isinstance(node.ctx, ast.Store):
                self.assertNotIn(node.attr, names, file)

    def test_attributes_that_are_read_are_assigned(self):
        attributes = [n for file, n in nodes() if isinstance(n, ast.Attribute)]
        stored = [node.attr for node in attributes if isinstance(node.ctx, ast.Store)]
        called = [node.func for file, node in nodes() if isinstance(node, ast.Call)]
        for node in attributes:
            if isinstance(node.ctx, ast.Load) and not [part for part in called if part is node]:
                self.assertIn(node.attr, stored)

    def test_methods_that_only_answer_assign_nothing(self):
        for method in self.methods():
            if method.name in ("__eq__", "__str__", "__len__"):
                for node in ast.walk(method):
                    self.assertNotIsInstance(node, (ast.Assign, ast.AugAssign, ast.NamedExpr, ast.Delete))
                self.assertIsInstance(method.body[-1], ast.Return)

    def test_no_generator_expressions(self):
        # The package has a class with __eq__, so that any, all, max and the like take lists.
        for file, node in nodes():
            self.assertNotIsInstance(node, (ast.GeneratorExp, ast.Yield, ast.YieldFrom), file)

    def test_errors_are_raised_on_the_spot(self):
        errors = [part.name for part in TREES[FOLDER / "errors.py"].body if isinstance(part, ast.ClassDef)]
        for file, node in nodes():
            if isinstance(node, ast.Raise):
                self.assertIsInstance(node.exc, ast.Call, file)
                self.assertIn(node.exc.func.id, errors, file)

    def test_only_own_errors_are_caught(self):
        errors = [part.name for part in TREES[FOLDER / "errors.py"].body if isinstance(part, ast.ClassDef)]
        for file, node in nodes():
            if isinstance(node, ast.ExceptHandler):
                names = node.type.elts if isinstance(node.type, ast.Tuple) else [node.type]
                for name in names:
                    self.assertIn(name.id, errors, file)

    def test_finally_only_assigns_plain_names_and_literals(self):
        for file, node in nodes():
            if isinstance(node, ast.Try):
                for part in node.finalbody:
                    self.assertIsInstance(part, ast.Assign, file)
                    self.assertIsInstance(part.value, (ast.Name, ast.Constant), file)

    def test_sets_stand_in_sorted_only(self):
        for file, node in nodes():
            self.assertNotIsInstance(node, (ast.Set, ast.SetComp), file)
        allowed = []
        for file, node in nodes():
            if isinstance(node, ast.Call) and isinstance(node.func, ast.Name):
                if node.func.id in ("sorted", "len"):
                    allowed.extend(node.args)
        for file, node in nodes():
            if isinstance(node, ast.Call) and isinstance(node.func, ast.Name) and node.func.id == "set":
                self.assertTrue([part for part in allowed if part is node], (file, node.lineno))
