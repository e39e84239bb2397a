"""The examples of README.md: each line with a comment tells what is written there."""

import ast
import pathlib
import re
import unittest

README = pathlib.Path(__file__).resolve().parent.parent / "README.md"


def value_told(comment):
    """The value that a comment begins with; what stands behind it is prose."""
    for end in range(len(comment), 0, -1):
        try:
            return ast.literal_eval(comment[:end].rstrip(": "))
        except (SyntaxError, ValueError):
            pass
    raise AssertionError(f"no value: {comment}")


class ExamplesTest(unittest.TestCase):
    def test_each_line_tells_what_is_written(self):
        names, held = {}, 0
        for block in re.findall(r"```python\n(.*?)```", README.read_text(), re.S):
            if "try:" in block:
                continue
            for line in block.splitlines():
                code, mark, comment = line.partition("  # ")
                if not mark:
                    exec(code, names)
                    continue
                held += 1
                name, sign, value = code.strip().partition(" = ")
                if not sign or not name.isidentifier():
                    name, value = "told", code.strip()
                names[name] = eval(value, names)
                self.assertEqual(names[name], value_told(comment), line)
        self.assertGreater(held, 40)
