"""Nothing in the package can reach a clock, chance or files: it draws from its own modules alone."""

import ast
import pathlib
import unittest

import choicefigures

FOLDER = pathlib.Path(choicefigures.__file__).parent
OUTSIDE = ("open", "input", "eval", "exec", "compile", "print", "hash", "id", "globals", "getattr")


class PackageTest(unittest.TestCase):
    def trees(self):
        files = sorted(FOLDER.glob("*.py"))
        self.assertIn(FOLDER / "figures.py", files)
        return [(file.name, ast.parse(file.read_text("utf-8"))) for file in files]

    def test_imports_are_the_package_s_own(self):
        for name, tree in self.trees():
            for node in ast.walk(tree):
                self.assertNotIsInstance(node, ast.Import, name)
                if isinstance(node, ast.ImportFrom):
                    self.assertEqual(node.level, 0, name)
                    self.assertEqual(node.module.split(".")[0], "choicefigures", name)

    def test_no_name_that_reaches_outside(self):
        for name, tree in self.trees():
            for node in ast.walk(tree):
                if isinstance(node, ast.Name):
                    self.assertNotIn(node.id, OUTSIDE, name)
                    self.assertFalse(node.id.startswith("__"), name)
