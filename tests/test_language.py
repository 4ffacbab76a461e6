"""What ../shared/LANGUAGE.md says of files, sizes, characters and imports."""

import ast
import pathlib
import re
import unittest

PACKAGE = pathlib.Path(__file__).resolve().parent.parent / "knotsorts"


def files():
    return sorted(path for path in PACKAGE.rglob("*") if "__pycache__" not in path.parts)


class Language(unittest.TestCase):
    def test_one_folder_of_plain_files(self):
        for path in files():
            self.assertRegex(path.name, r"^([a-z][a-z0-9_]*|__init__|__main__)\.py$")

    def test_sizes_and_characters(self):
        for path in files():
            text = path.read_text(encoding="utf-8")
            self.assertIsNone(re.search(r"[^ -~\n]", text), path)
            self.assertLess(len(text.splitlines()), 400, path)
            for number, line in enumerate(text.splitlines(), 1):
                self.assertLessEqual(len(line), 120, (path, number))

    def test_functions_have_at_most_forty_lines(self):
        for path in files():
            for node in ast.walk(ast.parse(path.read_text(encoding="utf-8"))):
                if isinstance(node, ast.FunctionDef):
                    self.assertLessEqual(node.end_lineno - node.lineno + 1, 40, (path, node.name))

    def test_imports_name_the_file_that_defines_the_name(self):
        for path in files():
            for node in ast.walk(ast.parse(path.read_text(encoding="utf-8"))):
                self.assertNotIsInstance(node, ast.Import, path)
                if isinstance(node, ast.ImportFrom):
                    self.assertEqual(node.level, 0, path)
                    self.assertTrue(node.module.startswith("knotsorts."), path)
                    home = PACKAGE.parent / (node.module.replace(".", "/") + ".py")
                    bound = ast.parse(home.read_text(encoding="utf-8")).body
                    names = [part.name for part in bound if isinstance(part, (ast.FunctionDef, ast.ClassDef))]
                    names += [part.targets[0].id for part in bound if isinstance(part, ast.Assign)]
                    self.assertLessEqual({alias.name for alias in node.names}, set(names), path)


if __name__ == "__main__":
    unittest.main()
