"""What ../shared/LANGUAGE.md says of files, sizes, characters, imports, names and kinds of statements."""

import ast
import builtins
import pathlib
import re
import unittest

# The builtins of L8 and the methods of builtin values of L25 that the package may use.
BUILTINS = """len range enumerate zip min max sum abs sorted reversed int str bool list tuple dict set isinstance ord
    repr any all divmod property ValueError LookupError KeyError IndexError""".split()
METHODS = """append clear copy count endswith extend find get index insert isalnum isalpha isdigit islower isspace
    isupper items join keys ljust lower lstrip partition pop remove replace reverse rfind rjust rpartition rsplit rstrip
    setdefault split splitlines startswith strip update upper values zfill bit_length""".split()

# The statements and expressions that the package gets by with.
NODES = """Module Expr Constant ImportFrom alias FunctionDef arguments arg ClassDef Return Assign AugAssign For While If
    Raise Break Continue Pass BoolOp And Or BinOp UnaryOp Not USub Compare Eq NotEq Lt LtE Gt GtE Is IsNot In NotIn
    IfExp Call keyword Name Load Store Attribute Subscript Slice List Tuple Dict ListComp DictComp comprehension
    JoinedStr FormattedValue Add Sub Mult FloorDiv Mod LShift BitAnd Yield""".split()
# L17: words that stand in no file but in comments and docstrings, and names that nothing has.
WORDS = """type typing typing_extensions enum Enum IntEnum StrEnum Flag IntFlag Generic Protocol ABC ABCMeta namedtuple
    NamedTuple TypedDict TYPE_CHECKING abstractmethod dataclass overload contextmanager _wall _WallAttr""".split()
NO_NAMES = """mro elements open input law version_info with_traceback add_note register attrgetter breakpoint builtins
    compile copyright credits delattr dir eval exec exit gc getattr globals hasattr help id importlib license locals
    methodcaller os quit setattr super vars sys""".split()

PACKAGE = pathlib.Path(__file__).resolve().parent.parent / "knotsorts"


def files():
    return sorted(path for path in PACKAGE.rglob("*") if "__pycache__" not in path.parts)


class Language(unittest.TestCase):
    def test_one_folder_of_plain_files(self):
        for path in files():
            self.assertRegex(path.name, r"^([a-z][a-z0-9_]*|__init__|__main__)\.py$")

    def test_sizes_and_characters(self):
        for path in files():
            text = path.read_text(encoding="utf-8")
            self.assertIsNone(re.search(r"[^ -~\n]", text), path)
            self.assertLess(len(text.splitlines()), 400, path)
            for number, line in enumerate(text.splitlines(), 1):
                self.assertLessEqual(len(line), 120, (path, number))

    def test_functions_have_at_most_forty_lines(self):
        for path in files():
            for node in ast.walk(ast.parse(path.read_text(encoding="utf-8"))):
                if isinstance(node, ast.FunctionDef):
                    self.assertLessEqual(node.end_lineno - node.lineno + 1, 40, (path, node.name))

    def test_builtins_and_names(self):
        for path in files():
            for node in ast.walk(ast.parse(path.read_text(encoding="utf-8"))):
                if isinstance(node, ast.Name) and hasattr(builtins, node.id):
                    self.assertIn(node.id, BUILTINS, path)
                    self.assertIsInstance(node.ctx, ast.Load, path)
                if isinstance(node, ast.arg):
                    self.assertFalse(hasattr(builtins, node.arg), (path, node.arg))

    def test_methods(self):
        classes = [
            node for path in files() for node in ast.walk(ast.parse(path.read_text(encoding="utf-8")))
            if isinstance(node, ast.ClassDef)
        ]
        own = [part.name for node in classes for part in node.body if isinstance(part, ast.FunctionDef)]
        for path in files():
            for node in ast.walk(ast.parse(path.read_text(encoding="utf-8"))):
                if isinstance(node, ast.Call) and isinstance(node.func, ast.Attribute):
                    self.assertIn(node.func.attr, METHODS + own, path)

    def test_kinds_of_statements_and_expressions(self):
        for path in files():
            for node in ast.walk(ast.parse(path.read_text(encoding="utf-8"))):
                self.assertIn(node.__class__.__name__, NODES, (path, getattr(node, "lineno", None)))
                if isinstance(node, ast.Constant):
                    self.assertIn(node.value.__class__, (int, str, bool, None.__class__), path)
                    if isinstance(node.value, str):
                        self.assertNotIn("%", node.value, path)
                if isinstance(node, ast.Compare) and isinstance(node.ops[0], (ast.Is, ast.IsNot)):
                    self.assertIsNone(node.comparators[0].value, path)

    def test_decorators_and_double_underscores(self):
        allowed = ["__init__", "__len__", "__contains__"]
        for path in files():
            for node in ast.walk(ast.parse(path.read_text(encoding="utf-8"))):
                if isinstance(node, ast.ClassDef):
                    self.assertEqual(node.decorator_list, [], path)
                    self.assertLessEqual(len(node.bases), 1, path)
                if isinstance(node, ast.FunctionDef):
                    self.assertIn([part.id for part in node.decorator_list], ([], ["property"]), path)
                    if node.name.startswith("__"):
                        self.assertIn(node.name, allowed, path)

    def test_words_and_names_that_are_not_used(self):
        for path in files():
            tree = ast.parse(path.read_text(encoding="utf-8"))
            names = []
            for node in ast.walk(tree):
                for field in ("id", "attr", "name", "arg"):
                    names.append(getattr(node, field, None))
                if isinstance(node, ast.Constant) and isinstance(node.value, str):
                    self.assertFalse(node.value.startswith("__"), path)
            for word in WORDS + NO_NAMES:
                self.assertNotIn(word, names, path)

    def test_what_stands_at_module_level(self):
        for path in files():
            tree = ast.parse(path.read_text(encoding="utf-8"))
            kinds = [part.__class__ for part in tree.body]
            imports = [place for place, kind in enumerate(kinds) if kind is ast.ImportFrom]
            self.assertEqual(imports, list(range(1, len(imports) + 1)), path)
            self.assertIsNotNone(ast.get_docstring(tree), path)
            self.assertLessEqual(set(kinds[1:]), {ast.ImportFrom, ast.Assign, ast.FunctionDef, ast.ClassDef}, path)
            bound = [part.name for part in tree.body if isinstance(part, (ast.FunctionDef, ast.ClassDef))]
            bound += [part.targets[0].id for part in tree.body if isinstance(part, ast.Assign)]
            bound += [alias.name for part in tree.body if isinstance(part, ast.ImportFrom) for alias in part.names]
            self.assertEqual(len(bound), len(set(bound)), path)

    def test_all_imports_are_used_and_none_goes_in_a_circle(self):
        homes = {}
        for path in files():
            tree = ast.parse(path.read_text(encoding="utf-8"))
            read = {node.id for node in ast.walk(tree) if isinstance(node, ast.Name)}
            for part in tree.body:
                if isinstance(part, ast.ImportFrom):
                    self.assertLessEqual({alias.name for alias in part.names}, read, path)
            homes[path.stem] = [part.module.split(".")[-1] for part in tree.body if isinstance(part, ast.ImportFrom)]
        left = set(homes)
        while left:
            fit = {name for name in left if not left & set(homes[name])}
            self.assertTrue(fit, left)
            left -= fit

    def test_no_name_stands_for_an_import_or_a_function_of_its_file(self):
        for path in files():
            tree = ast.parse(path.read_text(encoding="utf-8"))
            bound = {part.name for part in tree.body if isinstance(part, (ast.FunctionDef, ast.ClassDef))}
            for part in tree.body:
                if isinstance(part, ast.ImportFrom):
                    bound.update(alias.name for alias in part.names)
            for node in ast.walk(tree):
                if isinstance(node, ast.arg):
                    self.assertNotIn(node.arg, bound, path)
                if isinstance(node, ast.Name) and isinstance(node.ctx, ast.Store):
                    self.assertNotIn(node.id, bound, path)

    def test_imports_name_the_file_that_defines_the_name(self):
        for path in files():
            for node in ast.walk(ast.parse(path.read_text(encoding="utf-8"))):
                self.assertNotIsInstance(node, ast.Import, path)
                if isinstance(node, ast.ImportFrom) and node.module == "math":
                    self.assertEqual([alias.name for alias in node.names], ["comb"], path)
                elif isinstance(node, ast.ImportFrom):
                    self.assertEqual(node.level, 0, path)
                    self.assertTrue(node.module.startswith("knotsorts."), path)
                    home = PACKAGE.parent / (node.module.replace(".", "/") + ".py")
                    bound = ast.parse(home.read_text(encoding="utf-8")).body
                    names = [part.name for part in bound if isinstance(part, (ast.FunctionDef, ast.ClassDef))]
                    names += [part.targets[0].id for part in bound if isinstance(part, ast.Assign)]
                    self.assertLessEqual({alias.name for alias in node.names}, set(names), path)


if __name__ == "__main__":
    unittest.main()
