"""The rules of the language that can be seen from a file's tree: imports, builtins, sizes, characters, names."""

import ast
import builtins
import unittest
from pathlib import Path

PACKAGE = Path(__file__).resolve().parent.parent / "roomprices"
FILES = sorted(PACKAGE.glob("*.py"))
ALLOWED_BUILTINS = """
    len range enumerate zip min max sum abs sorted reversed int str bool list tuple dict set isinstance ord repr any all
    divmod pow iter next getattr hasattr setattr Exception ValueError TypeError KeyError IndexError LookupError
    ZeroDivisionError ArithmeticError OverflowError RuntimeError NotImplementedError AttributeError StopIteration
    NotImplemented
""".split()
BARRED = (ast.Import, ast.AsyncFunctionDef, ast.AsyncFor, ast.AsyncWith, ast.Await, ast.Global, ast.Div)


def trees():
    return [(file.name, ast.parse(file.read_text())) for file in FILES]


class Language(unittest.TestCase):
    def test_the_folder_holds_plain_files_alone(self):
        for thing in PACKAGE.iterdir():
            if thing.name != "__pycache__":
                self.assertEqual(thing.suffix, ".py", thing)
                self.assertTrue(thing.is_file())

    def test_characters_and_lengths(self):
        for file in FILES:
            lines = file.read_bytes().decode("ascii").split("\n")
            self.assertLess(len(lines), 400, file)
            for line in lines:
                self.assertLessEqual(len(line), 120, file)
                self.assertTrue(line.isprintable(), file)
                self.assertFalse(line.endswith(" "), file)

    def test_functions_have_at_most_40_lines(self):
        for name, tree in trees():
            for node in ast.walk(tree):
                if isinstance(node, ast.FunctionDef):
                    self.assertLessEqual(node.end_lineno - node.lineno + 1, 40, (name, node.name))

    def test_module_level(self):
        for name, tree in trees():
            for node in tree.body[1:]:
                self.assertIsInstance(node, (ast.ImportFrom, ast.FunctionDef, ast.ClassDef, ast.Assign), name)
            self.assertTrue(ast.get_docstring(tree), name)

    def test_imports_name_the_defining_file_of_the_package(self):
        defining = {name[:-3]: {part.name for part in tree.body if isinstance(part, (ast.FunctionDef, ast.ClassDef))}
                    for name, tree in trees()}
        for name, tree in trees():
            for node in ast.walk(tree):
                if isinstance(node, ast.ImportFrom):
                    self.assertEqual(node.level, 0, name)
                    package, _, file = node.module.partition(".")
                    self.assertEqual(package, "roomprices", name)
                    for alias in node.names:
                        self.assertIn(alias.name, defining[file], name)
                        self.assertIsNone(alias.asname, name)

    def test_no_barred_statements_and_no_floats(self):
        for name, tree in trees():
            for node in ast.walk(tree):
                self.assertNotIsInstance(node, BARRED, name)
                if isinstance(node, ast.Constant):
                    self.assertNotIsInstance(node.value, (float, complex, bytes), name)
                    if isinstance(node.value, str):
                        self.assertNotIn("%", node.value, name)

    def test_builtins_are_allowed_and_keep_their_meaning(self):
        for name, tree in trees():
            for node in ast.walk(tree):
                if isinstance(node, ast.Name) and hasattr(builtins, node.id):
                    self.assertIn(node.id, ALLOWED_BUILTINS, name)
                    self.assertIsInstance(node.ctx, ast.Load, name)
                if isinstance(node, ast.arg):
                    self.assertFalse(hasattr(builtins, node.arg), (name, node.arg))

    def test_no_local_name_is_an_import_or_a_class_of_its_file(self):
        for name, tree in trees():
            taken = {alias.name for node in ast.walk(tree) if isinstance(node, ast.ImportFrom) for alias in node.names}
            taken |= {node.name for node in ast.walk(tree) if isinstance(node, ast.ClassDef)}
            for node in ast.walk(tree):
                if isinstance(node, ast.Name) and isinstance(node.ctx, ast.Store):
                    self.assertNotIn(node.id, taken, name)
                if isinstance(node, ast.arg):
                    self.assertNotIn(node.arg, taken, name)


if __name__ == "__main__":
    unittest.main()
