"""The rules of the language that are quickly seen, over each file of the package.

They also hold promise 1's "nothing uses a clock, chance or files": nothing from outside the package is imported,
and of Python's own functions only those that the rules list are named.
"""

import ast
import builtins
import pathlib
import re
import unittest

PACKAGE = pathlib.Path(__file__).resolve().parent.parent / "kinrows"
BUILTINS = """len range enumerate zip min max sum abs sorted reversed int str bool bytes list tuple dict set frozenset
isinstance ord repr any all divmod super property staticmethod classmethod Exception ValueError TypeError KeyError
IndexError LookupError ZeroDivisionError ArithmeticError OverflowError RuntimeError NotImplementedError AttributeError
StopIteration NotImplemented""".split()
BARRED_WORDS = """type typing typing_extensions enum Enum IntEnum StrEnum Flag IntFlag Generic Protocol ABC ABCMeta
namedtuple NamedTuple TypedDict TYPE_CHECKING abstractmethod""".split()
BARRED_PARTS = ("dataclass", "overload", "contextmanager")
METHODS = "__init__ __eq__ __repr__ __str__ __len__ __enter__ __exit__ __call__ __iter__".split()
BARRED_NODES = (ast.Div, ast.Global, ast.AsyncFunctionDef, ast.AsyncFor, ast.AsyncWith, ast.Await, ast.Import)


def sources():
    return [(path, path.read_bytes().decode("ascii")) for path in sorted(PACKAGE.glob("*.py"))]


def trees():
    return [(path, ast.parse(text)) for path, text in sources()]


def nodes(kind):
    return [(path, node) for path, tree in trees() for node in ast.walk(tree) if isinstance(node, kind)]


def bound_names(tree):
    """The names that a file gives a meaning: functions, parameters, variables."""
    found = [node.name for node in ast.walk(tree) if isinstance(node, (ast.FunctionDef, ast.ClassDef))]
    found += [node.arg for node in ast.walk(tree) if isinstance(node, ast.arg)]
    return found + [node.id for node in ast.walk(tree) if isinstance(node, ast.Name)
                    and isinstance(node.ctx, ast.Store)]


class FilesTest(unittest.TestCase):
    def test_the_folder_has_only_python_files(self):
        names = [path.name for path in PACKAGE.iterdir() if path.name != "__pycache__"]
        self.assertIn("__init__.py", names)
        for name in names:
            self.assertRegex(name, r"\A[a-z0-9_]+\.py\Z")

    def test_signs_and_sizes(self):
        for path, text in sources():
            with self.subTest(path.name):
                self.assertRegex(text, r"\A[\n -~]*\Z")
                self.assertLessEqual(len(text.splitlines()), 400)
                self.assertLessEqual(max(map(len, text.splitlines())), 120)

    def test_functions_have_at_most_40_lines(self):
        for path, node in nodes(ast.FunctionDef):
            self.assertLessEqual(node.end_lineno - node.lineno + 1, 40, (path.name, node.name))

    def test_barred_words(self):
        for path, text in sources():
            with self.subTest(path.name):
                self.assertEqual([word for word in re.findall(r"\w+", text) if word in BARRED_WORDS], [])
                self.assertEqual([part for part in BARRED_PARTS if part in text], [])


class CodeTest(unittest.TestCase):
    def test_imports_are_of_the_package_alone(self):
        for path, node in nodes(ast.ImportFrom):
            self.assertRegex(node.module, r"\Akinrows\.[a-z0-9_]+\Z", path.name)
            self.assertEqual(node.level, 0)
            self.assertNotIn("*", [name.name for name in node.names])

    def test_barred_code(self):
        self.assertEqual([(path.name, node.__class__.__name__) for path, node in nodes(BARRED_NODES)], [])

    def test_listed_builtins_alone(self):
        for path, node in nodes(ast.Name):
            if hasattr(builtins, node.id):
                self.assertIn(node.id, BUILTINS, path.name)

    def test_plain_names_that_are_no_builtins(self):
        for path, tree in trees():
            for name in bound_names(tree):
                if name not in METHODS:
                    self.assertRegex(name, r"\A[A-Za-z][A-Za-z0-9_]*\Z", path.name)
                    self.assertFalse(hasattr(builtins, name), (path.name, name))

    def test_literals(self):
        for path, node in nodes(ast.Constant):
            self.assertNotIsInstance(node.value, float, path.name)
            if isinstance(node.value, str):
                self.assertNotIn("%", node.value, path.name)


if __name__ == "__main__":
    unittest.main()
