"""The form of the code, as far as it can be counted."""

import ast
import pathlib
import unittest

PACKAGE = pathlib.Path(__file__).resolve().parent.parent / "fewnames"
LIBRARY = ("heapq", "math", "itertools", "collections", "__future__")


def files():
    return sorted(path for path in PACKAGE.rglob("*") if path.is_file() and path.suffix != ".pyc")


def nodes():
    return [(path, node) for path in files() for node in ast.walk(ast.parse(path.read_text()))]


class FormTest(unittest.TestCase):
    def test_the_package_has_files_of_python_alone(self):
        for path in files():
            self.assertRegex(path.name, r"\A[a-z_]+\.py\Z")

    def test_each_folder_is_a_package(self):
        for folder in {path.parent for path in files()}:
            self.assertTrue((folder / "__init__.py").exists(), folder)

    def test_characters_and_sizes(self):
        for path in files():
            text = path.read_text()
            self.assertTrue(all(sign == "\n" or " " <= sign <= "~" for sign in text), path)
            self.assertLessEqual(len(text.splitlines()), 399, path)
            for line in text.splitlines():
                self.assertLessEqual(len(line), 120, path)

    def test_functions_are_short(self):
        for path, node in nodes():
            if isinstance(node, ast.FunctionDef):
                self.assertLessEqual(node.end_lineno - node.lineno + 1, 40, (path, node.name))

    def test_imports(self):
        for path, node in nodes():
            self.assertNotIsInstance(node, ast.Import, path)
            if isinstance(node, ast.ImportFrom):
                self.assertEqual(node.level, 0, path)
                self.assertIn(node.module.split(".")[0], ("fewnames",) + LIBRARY, path)

    def test_no_floats(self):
        for path, node in nodes():
            self.assertNotIsInstance(node, ast.Div, path)
            if isinstance(node, ast.Constant):
                self.assertNotIsInstance(node.value, float, path)

    def test_functions_and_classes_are_explained(self):
        for path, node in nodes():
            if isinstance(node, (ast.FunctionDef, ast.ClassDef)) and not node.name.startswith("__"):
                self.assertTrue(ast.get_docstring(node), (path, node.name))


if __name__ == "__main__":
    unittest.main()
