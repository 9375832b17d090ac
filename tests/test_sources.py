"""The package draws on nothing outside itself: no clock, no chance, no files (point 1)."""

import ast
import pathlib
import unittest

import takepairs

FOLDER = pathlib.Path(takepairs.__file__).parent
OUTWARD = ("open", "input", "print", "eval", "exec", "compile", "globals", "__import__", "__builtins__", "__loader__")


def trees():
    return {path.name: ast.parse(path.read_text(encoding="ascii")) for path in sorted(FOLDER.glob("*.py"))}


class Sources(unittest.TestCase):
    def test_the_files_are_there(self):
        files = {"__init__.py", "errors.py", "pairs.py", "worths.py", "tables.py", "plays.py", "notes.py"}
        self.assertLessEqual(files, set(trees()))

    def test_imports_are_the_packages_own(self):
        for name, tree in trees().items():
            for node in ast.walk(tree):
                self.assertNotIsInstance(node, ast.Import, name)
                if isinstance(node, ast.ImportFrom):
                    self.assertEqual(node.level, 0, name)
                    self.assertTrue(node.module.startswith("takepairs."), f"{name}: {node.module}")

    def test_nothing_reaches_outward(self):
        for name, tree in trees().items():
            used = {node.id for node in ast.walk(tree) if isinstance(node, ast.Name)}
            self.assertEqual(used & set(OUTWARD), set(), name)


if __name__ == "__main__":
    unittest.main()
