"""The sizes and characters that the files of the package keep to."""

import ast
import unittest
from pathlib import Path

FOLDER = Path(__file__).resolve().parent.parent / "wrongclock"
FILES = sorted(FOLDER.rglob("*.py"))


class Shape(unittest.TestCase):
    def test_there_are_files(self):
        self.assertIn(FOLDER / "__init__.py", FILES)

    def test_sizes(self):
        for path in FILES:
            lines = path.read_text(encoding="ascii").split("\n")
            self.assertLessEqual(len(lines), 400, path)
            self.assertLessEqual(max(len(line) for line in lines), 120, path)

    def test_characters(self):
        for path in FILES:
            odd = [sign for sign in path.read_text(encoding="ascii") if sign != "\n" and not " " <= sign <= "~"]
            self.assertEqual(odd, [], path)

    def test_functions(self):
        for path in FILES:
            for node in ast.walk(ast.parse(path.read_text(encoding="ascii"))):
                if isinstance(node, ast.FunctionDef):
                    self.assertLessEqual(node.end_lineno - node.lineno + 1, 40, (path, node.name))

    def test_imports(self):
        library = ("__future__", "heapq", "math", "itertools", "collections")
        for path in FILES:
            for node in ast.walk(ast.parse(path.read_text(encoding="ascii"))):
                self.assertNotIsInstance(node, ast.Import, path)
                if isinstance(node, ast.ImportFrom):
                    own = node.module.startswith("wrongclock.")
                    self.assertTrue(own or node.module in library, (path, node.module))


if __name__ == "__main__":
    unittest.main()
