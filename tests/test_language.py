"""What ../shared/LANGUAGE.md says of files, sizes, characters and imports."""

import ast
import builtins
import pathlib
import re
import unittest

# The builtins of L8 and the methods of builtin values of L25 that the package may use.
BUILTINS = """len range enumerate zip min max sum abs sorted reversed int str bool list tuple dict set isinstance ord
    repr any all divmod ValueError LookupError KeyError IndexError""".split()
METHODS = """append clear copy count endswith extend find get index insert isalnum isalpha isdigit islower isspace
    isupper items join keys ljust lower lstrip partition pop remove replace reverse rfind rjust rpartition rsplit rstrip
    setdefault split splitlines startswith strip update upper values zfill bit_length""".split()

PACKAGE = pathlib.Path(__file__).resolve().parent.parent / "knotsorts"


def files():
    return sorted(path for path in PACKAGE.rglob("*") if "__pycache__" not in path.parts)


class Language(unittest.TestCase):
    def test_one_folder_of_plain_files(self):
        for path in files():
            self.assertRegex(path.name, r"^([a-z][a-z0-9_]*|__init__|__main__)\.py$")

    def test_sizes_and_characters(self):
        for path in files():
            text = path.read_text(encoding="utf-8")
            self.assertIsNone(re.search(r"[^ -~\n]", text), path)
            self.assertLess(len(text.splitlines()), 400, path)
            for number, line in enumerate(text.splitlines(), 1):
                self.assertLessEqual(len(line), 120, (path, number))

    def test_functions_have_at_most_forty_lines(self):
        for path in files():
            for node in ast.walk(ast.parse(path.read_text(encoding="utf-8"))):
                if isinstance(node, ast.FunctionDef):
                    self.assertLessEqual(node.end_lineno - node.lineno + 1, 40, (path, node.name))

    def test_builtins_and_names(self):
        for path in files():
            for node in ast.walk(ast.parse(path.read_text(encoding="utf-8"))):
                if isinstance(node, ast.Name) and hasattr(builtins, node.id):
                    self.assertIn(node.id, BUILTINS, path)
                    self.assertIsInstance(node.ctx, ast.Load, path)
                if isinstance(node, ast.arg):
                    self.assertFalse(hasattr(builtins, node.arg), (path, node.arg))

    def test_methods(self):
        classes = [
            node for path in files() for node in ast.walk(ast.parse(path.read_text(encoding="utf-8")))
            if isinstance(node, ast.ClassDef)
        ]
        own = [part.name for node in classes for part in node.body if isinstance(part, ast.FunctionDef)]
        for path in files():
            for node in ast.walk(ast.parse(path.read_text(encoding="utf-8"))):
                if isinstance(node, ast.Call) and isinstance(node.func, ast.Attribute):
                    self.assertIn(node.func.attr, METHODS + own, path)

    def test_no_name_stands_for_an_import_or_a_function_of_its_file(self):
        for path in files():
            tree = ast.parse(path.read_text(encoding="utf-8"))
            bound = {part.name for part in tree.body if isinstance(part, (ast.FunctionDef, ast.ClassDef))}
            for part in tree.body:
                if isinstance(part, ast.ImportFrom):
                    bound.update(alias.name for alias in part.names)
            for node in ast.walk(tree):
                if isinstance(node, ast.arg):
                    self.assertNotIn(node.arg, bound, path)
                if isinstance(node, ast.Name) and isinstance(node.ctx, ast.Store):
                    self.assertNotIn(node.id, bound, path)

    def test_imports_name_the_file_that_defines_the_name(self):
        for path in files():
            for node in ast.walk(ast.parse(path.read_text(encoding="utf-8"))):
                self.assertNotIsInstance(node, ast.Import, path)
                if isinstance(node, ast.ImportFrom):
                    self.assertEqual(node.level, 0, path)
                    self.assertTrue(node.module.startswith("knotsorts."), path)
                    home = PACKAGE.parent / (node.module.replace(".", "/") + ".py")
                    bound = ast.parse(home.read_text(encoding="utf-8")).body
                    names = [part.name for part in bound if isinstance(part, (ast.FunctionDef, ast.ClassDef))]
                    names += [part.targets[0].id for part in bound if isinstance(part, ast.Assign)]
                    self.assertLessEqual({alias.name for alias in node.names}, set(names), path)


if __name__ == "__main__":
    unittest.main()
