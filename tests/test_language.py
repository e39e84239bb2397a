"""The rules of the language that are quickly seen, over each file of the package.

They also hold promise 1's "nothing uses a clock, chance or files": nothing from outside the package is imported,
and of Python's own functions only those that the rules list are named.
"""

import ast
import builtins
import pathlib
import re
import unittest

PACKAGE = pathlib.Path(__file__).resolve().parent.parent / "kinrows"
BUILTINS = """len range enumerate zip min max sum abs sorted reversed int str bool bytes list tuple dict set frozenset
isinstance ord repr any all divmod super property staticmethod classmethod Exception ValueError TypeError KeyError
IndexError LookupError ZeroDivisionError ArithmeticError OverflowError RuntimeError NotImplementedError AttributeError
StopIteration NotImplemented""".split()
BARRED_WORDS = """type typing typing_extensions enum Enum IntEnum StrEnum Flag IntFlag Generic Protocol ABC ABCMeta
namedtuple NamedTuple TypedDict TYPE_CHECKING abstractmethod""".split()
BARRED_PARTS = ("dataclass", "overload", "contextmanager")
METHODS = "__init__ __eq__ __repr__ __str__ __len__ __enter__ __exit__ __call__ __iter__".split()
LISTED_METHODS = """append clear copy count endswith extend find get index insert isalnum isalpha isdigit
islower isspace isupper items join keys ljust lower lstrip partition pop remove replace reverse rfind rjust
rpartition rsplit rstrip setdefault split splitlines startswith strip update upper values zfill bit_length add
discard sort""".split()
BARRED_NODES = (ast.Div, ast.Global, ast.AsyncFunctionDef, ast.AsyncFor, ast.AsyncWith, ast.Await, ast.Import)


def sources():
    return [(path, path.read_bytes().decode("ascii")) for path in sorted(PACKAGE.glob("*.py"))]


def trees():
    return [(path, ast.parse(text)) for path, text in sources()]


def nodes(kind):
    return [(path, node) for path, tree in trees() for node in ast.walk(tree) if isinstance(node, kind)]


def bound_names(tree):
    """The names that a file gives a meaning: functions, parameters, variables."""
    found = [node.name for node in ast.walk(tree) if isinstance(node, (ast.FunctionDef, ast.ClassDef))]
    found += [node.arg for node in ast.walk(tree) if isinstance(node, ast.arg)]
    return found + [node.id for node in ast.walk(tree) if isinstance(node, ast.Name)
                    and isinstance(node.ctx, ast.Store)]


def local_names(tree):
    """The parameters and variables of a file's functions."""
    found = []
    for node in ast.walk(tree):
        if isinstance(node, (ast.FunctionDef, ast.Lambda)):
            found += [inner.arg for inner in ast.walk(node) if isinstance(inner, ast.arg)]
            found += [inner.id for inner in ast.walk(node) if isinstance(inner, ast.Name)
                      and isinstance(inner.ctx, ast.Store)]
    return found


def imports(tree):
    """The pairs (file, name) of what a file imports."""
    return [(node.module.split(".")[-1], name.name) for node in tree.body if isinstance(node, ast.ImportFrom)
            for name in node.names]


def defined(tree):
    """The names that a file itself gives a meaning at module level, each as often as it does."""
    found = [node.name for node in tree.body if isinstance(node, (ast.FunctionDef, ast.ClassDef))]
    return found + [name.id for node in tree.body if isinstance(node, ast.Assign) for name in node.targets]


class FilesTest(unittest.TestCase):
    def test_the_folder_has_only_python_files(self):
        names = [path.name for path in PACKAGE.iterdir() if path.name != "__pycache__"]
        self.assertIn("__init__.py", names)
        for name in names:
            self.assertRegex(name, r"\A[a-z0-9_]+\.py\Z")

    def test_signs_and_sizes(self):
        for path, text in sources():
            with self.subTest(path.name):
                self.assertRegex(text, r"\A[\n -~]*\Z")
                self.assertLessEqual(len(text.splitlines()), 400)
                self.assertLessEqual(max(map(len, text.splitlines())), 120)

    def test_functions_have_at_most_40_lines(self):
        for path, node in nodes(ast.FunctionDef):
            self.assertLessEqual(node.end_lineno - node.lineno + 1, 40, (path.name, node.name))

    def test_barred_words(self):
        for path, text in sources():
            with self.subTest(path.name):
                self.assertEqual([word for word in re.findall(r"\w+", text) if word in BARRED_WORDS], [])
                self.assertEqual([part for part in BARRED_PARTS if part in text], [])


class CodeTest(unittest.TestCase):
    def test_imports_are_of_the_package_alone(self):
        for path, node in nodes(ast.ImportFrom):
            self.assertRegex(node.module, r"\Akinrows\.[a-z0-9_]+\Z", path.name)
            self.assertEqual(node.level, 0)
            self.assertNotIn("*", [name.name for name in node.names])

    def test_imports_name_the_file_that_defines(self):
        names = {path.stem: defined(tree) for path, tree in trees()}
        for path, tree in trees():
            for file, name in imports(tree):
                self.assertIn(name, names[file], path.name)

    def test_imports_go_in_no_circle(self):
        needs = {path.stem: {file for file, name in imports(tree)} for path, tree in trees()}
        while needs:
            ready = [file for file in needs if not needs[file] & set(needs)]
            self.assertTrue(ready, needs)
            for file in ready:
                del needs[file]

    def test_each_name_has_one_meaning_in_a_file(self):
        for path, tree in trees():
            names = defined(tree) + [name for file, name in imports(tree)]
            self.assertEqual(sorted(names), sorted(set(names)), path.name)
            self.assertEqual([name for name in local_names(tree) if name in names], [], path.name)

    def test_listed_methods_alone(self):
        own = {node.name for path, node in nodes(ast.FunctionDef)}
        for path, node in nodes(ast.Call):
            if isinstance(node.func, ast.Attribute):
                self.assertIn(node.func.attr, own | set(LISTED_METHODS), path.name)

    def test_no_name_is_a_method_and_an_attribute(self):
        methods = {inner.name for path, node in nodes(ast.ClassDef) for inner in node.body
                   if isinstance(inner, ast.FunctionDef)}
        stored = {node.attr for path, node in nodes(ast.Attribute) if isinstance(node.ctx, ast.Store)}
        self.assertEqual(methods & stored, set())
        for path, tree in trees():
            called = {node.func for node in ast.walk(tree) if isinstance(node, ast.Call)}
            for node in ast.walk(tree):
                if isinstance(node, ast.Attribute) and node not in called:
                    self.assertIn(node.attr, stored, path.name)

    def test_methods_have_no_names_of_builtin_values(self):
        values = {name for value in ("", 0, [], {}, set(), b"") for name in dir(value)} - set(LISTED_METHODS)
        for path, node in nodes(ast.ClassDef):
            names = [inner.name for inner in node.body if isinstance(inner, ast.FunctionDef)]
            self.assertEqual(sorted(names), sorted(set(names)))
            self.assertEqual([name for name in names if name in values and name not in METHODS], [], path.name)

    def test_barred_code(self):
        self.assertEqual([(path.name, node.__class__.__name__) for path, node in nodes(BARRED_NODES)], [])

    def test_listed_builtins_alone(self):
        for path, node in nodes(ast.Name):
            if hasattr(builtins, node.id):
                self.assertIn(node.id, BUILTINS, path.name)

    def test_plain_names_that_are_no_builtins(self):
        for path, tree in trees():
            for name in bound_names(tree):
                if name not in METHODS:
                    self.assertRegex(name, r"\A[A-Za-z][A-Za-z0-9_]*\Z", path.name)
                    self.assertFalse(hasattr(builtins, name), (path.name, name))

    def test_literals(self):
        for path, node in nodes(ast.Constant):
            self.assertNotIsInstance(node.value, float, path.name)
            if isinstance(node.value, str):
                self.assertNotIn("%", node.value, path.name)


if __name__ == "__main__":
    unittest.main()
