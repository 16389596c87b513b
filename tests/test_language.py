"""The rules of the language that a look at the files can tell: sizes, signs, imports, builtins, methods."""

import ast
import builtins
import unittest
from pathlib import Path

PACKAGE = Path(__file__).resolve().parent.parent / "whatremains"
FILES = sorted(PACKAGE.glob("*.py"))

BUILTINS = set("""len range enumerate zip min max sum abs sorted reversed int str bool bytes list tuple dict set
frozenset isinstance ord repr any all divmod pow getattr hasattr setattr iter next super Exception ValueError
TypeError KeyError IndexError LookupError ZeroDivisionError ArithmeticError OverflowError RuntimeError
NotImplementedError AttributeError StopIteration NotImplemented""".split())
METHODS = set("""append clear copy count endswith extend find get index insert isalnum isalpha isdigit islower isspace
isupper items join keys ljust lower lstrip partition pop remove replace reverse rfind rjust rpartition rsplit rstrip
setdefault split splitlines startswith strip update upper values zfill bit_length
title capitalize swapcase casefold center expandtabs removeprefix removesuffix rindex isascii isdecimal isnumeric
istitle isidentifier isprintable""".split())
INTERFACE = {
    "errors": {"RestError", "BadProgram", "BadFuel", "BadPapers", "BadText"},
    "programs": {"parts"},
    "plain": {"run"},
    "calls": {"run_calls"},
    "rooms": {"run_rooms"},
    "piles": {"run_piles"},
    "papers": {"papers", "shows"},
    "notes": {"written", "read"},
}


def defined(tree):
    """The names that a file defines itself at module level."""
    found = set()
    for node in tree.body:
        if isinstance(node, (ast.FunctionDef, ast.ClassDef)):
            found.add(node.name)
        elif isinstance(node, ast.Assign):
            found.update(target.id for target in node.targets)
    return found


class Language(unittest.TestCase):
    def setUp(self):
        self.texts = {path.stem: path.read_text(encoding="utf-8") for path in FILES}
        self.trees = {stem: ast.parse(text) for stem, text in self.texts.items()}

    def nodes(self, *kinds):
        for stem, tree in self.trees.items():
            for node in ast.walk(tree):
                if isinstance(node, kinds):
                    yield stem, node

    def test_the_folder_holds_python_files_only(self):
        others = [path.name for path in PACKAGE.iterdir() if path.suffix != ".py" and path.name != "__pycache__"]
        self.assertEqual(others, [])

    def test_sizes_and_signs(self):
        for stem, text in self.texts.items():
            lines = text.split("\n")
            self.assertLessEqual(len(lines), 399, stem)
            self.assertLessEqual(max(len(line) for line in lines), 120, stem)
            self.assertTrue(all(sign == "\n" or " " <= sign <= "~" for sign in text), stem)
        for stem, node in self.nodes(ast.FunctionDef):
            self.assertLessEqual(node.end_lineno - node.lineno + 1, 40, (stem, node.name))

    def test_imports_name_the_file_that_defines_the_name(self):
        for stem, node in self.nodes(ast.Import, ast.ImportFrom):
            self.assertIsInstance(node, ast.ImportFrom, stem)
            package, _, module = node.module.partition(".")
            self.assertEqual((package, node.level), ("whatremains", 0), stem)
            for alias in node.names:
                self.assertIn(alias.name, defined(self.trees[module]), stem)

    def test_no_builtin_but_those_of_the_language(self):
        for stem, node in self.nodes(ast.Name):
            if hasattr(builtins, node.id):
                self.assertIn(node.id, BUILTINS, (stem, node.lineno))
                self.assertIsInstance(node.ctx, ast.Load, (stem, node.lineno))

    def test_no_method_but_own_ones_and_those_of_the_language(self):
        own = {node.name for _, node in self.nodes(ast.FunctionDef)}
        for stem, node in self.nodes(ast.Call):
            if isinstance(node.func, ast.Attribute):
                self.assertIn(node.func.attr, METHODS | own, (stem, node.lineno))

    def test_no_statement_that_the_language_has_not(self):
        barred = (ast.Global, ast.AsyncFunctionDef, ast.Await, ast.TryStar, ast.Div)
        self.assertEqual([(stem, node) for stem, node in self.nodes(*barred)], [])
        for stem, node in self.nodes(ast.Constant):
            self.assertNotIsInstance(node.value, float, stem)

    def test_no_name_is_a_method_and_an_attribute(self):
        methods = {node.name for _, cls in self.nodes(ast.ClassDef) for node in cls.body
                   if isinstance(node, ast.FunctionDef)}
        attributes = {node.attr for _, node in self.nodes(ast.Attribute) if isinstance(node.ctx, ast.Store)}
        self.assertEqual(methods & attributes, set())

    def test_no_parameter_or_local_name_is_one_of_the_files_classes_or_imports(self):
        for stem, tree in self.trees.items():
            outer = {node.name for node in tree.body if isinstance(node, ast.ClassDef)}
            for node in ast.walk(tree):
                if isinstance(node, ast.ImportFrom):
                    outer.update(alias.name for alias in node.names)
            inner = {node.arg for node in ast.walk(tree) if isinstance(node, ast.arg)}
            inner |= {node.id for node in ast.walk(tree) if isinstance(node, ast.Name)
                      and isinstance(node.ctx, ast.Store)}
            self.assertEqual(outer & inner, set(), stem)

    def test_files_import_in_no_circle(self):
        left = {stem: {node.module.partition(".")[2] for node in ast.walk(tree) if isinstance(node, ast.ImportFrom)}
                for stem, tree in self.trees.items()}
        while left:
            done = {stem for stem, needed in left.items() if not needed & set(left)}
            self.assertTrue(done, left)
            left = {stem: needed for stem, needed in left.items() if stem not in done}

    def test_strings(self):
        for stem, node in self.nodes(ast.Constant):
            if isinstance(node.value, str):
                self.assertNotIn("%", node.value, stem)
        for stem, node in self.nodes(ast.Name):
            self.assertRegex(node.id, "^_?[A-Za-z][A-Za-z0-9_]*$|^_$", stem)

    def test_tables_of_functions_are_not_called_at_once(self):
        for stem, node in self.nodes(ast.Call):
            self.assertIsInstance(node.func, (ast.Name, ast.Attribute), (stem, node.lineno))

    def test_the_interface_is_defined_where_it_is_listed(self):
        for stem, names in INTERFACE.items():
            self.assertLessEqual(names, defined(self.trees[stem]), stem)
