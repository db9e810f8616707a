"""Tests of what the rules of the language ask of the files of the package."""

import ast
import builtins
import pathlib
import re
import unittest

FOLDER = pathlib.Path(__file__).resolve().parent.parent / "planesplits"
FILES = sorted(FOLDER.glob("*.py"))
BARRED = re.compile(r"\b(type|typing|enum|Enum|Flag|Generic|Protocol|ABC|namedtuple|NamedTuple|global|async)\b")
BUILTINS = set("""len range enumerate zip min max sum abs sorted reversed int str bool list tuple dict set isinstance
    repr any all divmod super ValueError""".split())


def trees():
    return [(path.name, ast.parse(path.read_text())) for path in FILES]


def assigned(tree):
    """Return all names that a file gives a meaning."""
    names = [node.name for node in ast.walk(tree) if isinstance(node, (ast.FunctionDef, ast.ClassDef))]
    names += [node.arg for node in ast.walk(tree) if isinstance(node, ast.arg)]
    names += [node.id for node in ast.walk(tree) if isinstance(node, ast.Name) and isinstance(node.ctx, ast.Store)]
    return names + [row.name for node in ast.walk(tree) if isinstance(node, ast.ImportFrom) for row in node.names]


class LanguageTest(unittest.TestCase):

    def test_the_folder_holds_files_alone(self):
        others = [path.name for path in FOLDER.iterdir() if path not in FILES and path.name != "__pycache__"]
        self.assertEqual(others, [])

    def test_sizes_and_characters(self):
        for path in FILES:
            lines = path.read_text().split("\n")
            self.assertLess(len(lines), 400, path.name)
            for line in lines:
                self.assertLessEqual(len(line), 120, path.name)
                self.assertTrue(all(" " <= sign <= "~" for sign in line), (path.name, line))
                self.assertIsNone(BARRED.search(line), (path.name, line))

    def test_functions(self):
        for name, tree in trees():
            for node in ast.walk(tree):
                if isinstance(node, ast.FunctionDef):
                    self.assertLessEqual(node.end_lineno - node.lineno + 1, 40, (name, node.name))
                    self.assertEqual(node.decorator_list, [], (name, node.name))
                    called = [part.func.id for part in ast.walk(node)
                              if isinstance(part, ast.Call) and isinstance(part.func, ast.Name)]
                    self.assertNotIn(node.name, called, "trees are deep, so nothing calls itself")

    def test_imports(self):
        for name, tree in trees():
            for node in ast.walk(tree):
                self.assertNotIsInstance(node, ast.Import, name)
                if isinstance(node, ast.ImportFrom):
                    self.assertTrue(node.module.startswith("planesplits."), name)
                    self.assertTrue(all(row.asname is None for row in node.names), name)

    def test_names(self):
        for name, tree in trees():
            own = assigned(tree)
            for word in own:
                if word != "__init__":
                    self.assertFalse(hasattr(builtins, word) or word.startswith("_"), (name, word))
            for node in ast.walk(tree):
                if isinstance(node, ast.Name):
                    self.assertIn(node.id, BUILTINS | set(own), (name, node.id))

    def test_numbers_and_signs(self):
        for name, tree in trees():
            for node in ast.walk(tree):
                self.assertNotIsInstance(node, (ast.Div, ast.GeneratorExp, ast.Global, ast.JoinedStr), name)
                if isinstance(node, ast.Constant):
                    self.assertNotIsInstance(node.value, (float, complex), name)
                    self.assertNotIn("%", str(node.value), name)


if __name__ == "__main__":
    unittest.main()
