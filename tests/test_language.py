"""Tests of what the rules of the language ask of the files of the package."""

import ast
import builtins
import pathlib
import re
import unittest

FOLDER = pathlib.Path(__file__).resolve().parent.parent / "planesplits"
FILES = sorted(FOLDER.glob("*.py"))
BARRED = re.compile(r"\b(type|typing|enum|Enum|Flag|Generic|Protocol|ABC|namedtuple|NamedTuple|global|async)\b")
NOT_USED = set("""register mro elements open input law version_info with_traceback add_note attrgetter breakpoint
    builtins compile copyright credits delattr dir eval exec exit gc getattr globals hasattr help id importlib license
    locals methodcaller os quit setattr type vars sys iter next""".split())
METHODS = set("""append clear copy count endswith extend find get index insert isalnum isalpha isdigit islower isspace
    isupper items join keys ljust lower lstrip partition pop remove replace reverse rfind rjust rpartition rsplit rstrip
    setdefault split splitlines startswith strip update upper values zfill bit_length add discard __init__""".split())
BUILTINS = set("""len range enumerate zip min max sum abs sorted reversed int str bool list tuple dict set isinstance
    repr any all divmod super ValueError""".split())
# These call themselves at most 41 times, one within the other.
NEVER_DEEP = ["grown_short", "shallow", "grown_sides", "trees_of", "common", "inverted", "placed_anew", "window",
              "numbered", "paint", "picture_of_box", "text_rows"]


def methods_and_attributes():
    """Return the names of all methods of the package, and of all attributes that it assigns."""
    classes = [node for name, tree in trees() for node in ast.walk(tree) if isinstance(node, ast.ClassDef)]
    methods = [row.name for node in classes for row in node.body if isinstance(row, ast.FunctionDef)]
    stored = [node.attr for name, tree in trees() for node in ast.walk(tree)
              if isinstance(node, ast.Attribute) and isinstance(node.ctx, ast.Store)]
    return methods, stored


def trees():
    return [(path.name, ast.parse(path.read_text())) for path in FILES]


def assigned(tree):
    """Return all names that a file gives a meaning."""
    names = [node.name for node in ast.walk(tree) if isinstance(node, (ast.FunctionDef, ast.ClassDef))]
    names += [node.arg for node in ast.walk(tree) if isinstance(node, ast.arg)]
    names += [node.id for node in ast.walk(tree) if isinstance(node, ast.Name) and isinstance(node.ctx, ast.Store)]
    return names + [row.name for node in ast.walk(tree) if isinstance(node, ast.ImportFrom) for row in node.names]


class LanguageTest(unittest.TestCase):

    def test_the_folder_holds_files_alone(self):
        others = [path.name for path in FOLDER.iterdir() if path not in FILES and path.name != "__pycache__"]
        self.assertEqual(others, [])

    def test_sizes_and_characters(self):
        for path in FILES:
            lines = path.read_text().split("\n")
            self.assertLess(len(lines), 400, path.name)
            for line in lines:
                self.assertLessEqual(len(line), 120, path.name)
                self.assertTrue(all(" " <= sign <= "~" for sign in line), (path.name, line))
                self.assertIsNone(BARRED.search(line), (path.name, line))

    def test_functions(self):
        for name, tree in trees():
            for node in ast.walk(tree):
                if isinstance(node, ast.FunctionDef):
                    self.assertLessEqual(node.end_lineno - node.lineno + 1, 40, (name, node.name))
                    self.assertEqual(node.decorator_list, [], (name, node.name))
                    called = [part.func.id for part in ast.walk(node)
                              if isinstance(part, ast.Call) and isinstance(part.func, ast.Name)]
                    if node.name not in NEVER_DEEP:
                        self.assertNotIn(node.name, called, "trees are deep, so nothing calls itself")

    def test_imports(self):
        for name, tree in trees():
            for node in ast.walk(tree):
                self.assertNotIsInstance(node, ast.Import, name)
                if isinstance(node, ast.ImportFrom):
                    self.assertTrue(node.module.startswith("planesplits."), name)
                    self.assertTrue(all(row.asname is None for row in node.names), name)

    def test_names(self):
        for name, tree in trees():
            own = assigned(tree)
            for word in own:
                if word not in ("__init__", "__eq__"):
                    self.assertFalse(hasattr(builtins, word) or word.startswith("_"), (name, word))
            for node in ast.walk(tree):
                if isinstance(node, ast.Name):
                    self.assertIn(node.id, BUILTINS | set(own), (name, node.id))

    def test_other_words(self):
        allowed = METHODS | set(methods_and_attributes()[0])
        for name, tree in trees():
            imports = [row.name for node in ast.walk(tree) if isinstance(node, ast.ImportFrom) for row in node.names]
            used = [node.id for node in ast.walk(tree) if isinstance(node, ast.Name)]
            self.assertEqual([word for word in imports if word not in used], [], name)
            self.assertEqual(sorted(set(imports)), sorted(imports), name)
            for function in [node for node in ast.walk(tree) if isinstance(node, ast.FunctionDef)]:
                for word in assigned(function):
                    self.assertNotIn(word, NOT_USED, name)
                    if word != function.name:
                        self.assertNotIn(word, imports, (name, function.name))
            for node in ast.walk(tree):
                if isinstance(node, ast.Call) and isinstance(node.func, ast.Attribute):
                    self.assertIn(node.func.attr, allowed, (name, node.lineno))

    def test_methods_and_attributes(self):
        methods, stored = methods_and_attributes()
        self.assertEqual(set(methods) & set(stored), set())
        for value in ("", 0, [], {}, set(), b""):
            for word in methods + stored:
                self.assertTrue(word.startswith("__") or word == "index" or not hasattr(value, word), word)

    def test_no_round_of_imports(self):
        imports = {name[:-3]: [node.module.split(".")[1] for node in ast.walk(tree) if isinstance(node, ast.ImportFrom)]
                   for name, tree in trees()}
        for name in imports:
            reached = list(imports[name])
            for other in reached:
                reached += [more for more in imports[other] if more not in reached]
            self.assertNotIn(name, reached)

    def test_powers_and_sets(self):
        for name, tree in trees():
            for node in ast.walk(tree):
                if isinstance(node, ast.BinOp) and isinstance(node.op, ast.Pow):
                    self.assertIsInstance(node.right, ast.Constant, (name, node.lineno))
                if isinstance(node, ast.Assign) and isinstance(node.value, (ast.Set, ast.SetComp)):
                    self.fail((name, node.lineno))

    def test_numbers_and_signs(self):
        for name, tree in trees():
            for node in ast.walk(tree):
                self.assertNotIsInstance(node, (ast.Div, ast.GeneratorExp, ast.Global), name)
                if isinstance(node, ast.Constant):
                    self.assertNotIsInstance(node.value, (float, complex), name)
                    self.assertNotIn("%", str(node.value), name)


if __name__ == "__main__":
    unittest.main()
