"""The form of the code, as far as it can be counted."""

import ast
import builtins
import pathlib
import tokenize
import unittest

PACKAGE = pathlib.Path(__file__).resolve().parent.parent / "fewnames"
LIBRARY = ("heapq", "math", "itertools", "collections", "__future__")
BUILTINS = """
    len range enumerate zip min max sum abs sorted reversed int str bool list tuple dict set isinstance ord repr any all
    divmod iter next map property Exception ValueError TypeError KeyError IndexError LookupError ZeroDivisionError
    ArithmeticError OverflowError RuntimeError NotImplementedError AttributeError StopIteration NotImplemented
""".split()
METHODS = """
    append clear copy count endswith extend find get index insert isalnum isalpha isdigit islower isspace isupper items
    join keys ljust lower lstrip partition pop remove replace reverse rfind rjust rpartition rsplit rstrip setdefault
    split splitlines startswith strip update upper values zfill bit_length
""".split()
UNUSED = """
    type typing typing_extensions enum Enum IntEnum StrEnum Flag IntFlag Generic Protocol ABC ABCMeta namedtuple
    NamedTuple TypedDict TYPE_CHECKING abstractmethod mro elements open input law version_info with_traceback add_note
    register eval exec compile globals locals vars dir delattr super importlib
""".split()


def files():
    return sorted(path for path in PACKAGE.rglob("*") if path.is_file() and path.suffix != ".pyc")


def nodes():
    return [(path, node) for path in files() for node in ast.walk(ast.parse(path.read_text()))]


def own_methods():
    return {one.name for _, node in nodes() if isinstance(node, ast.ClassDef)
            for one in node.body if isinstance(one, ast.FunctionDef)}


class FormTest(unittest.TestCase):
    def test_the_package_has_files_of_python_alone(self):
        for path in files():
            self.assertRegex(path.name, r"\A[a-z_]+\.py\Z")

    def test_each_folder_is_a_package(self):
        for folder in {path.parent for path in files()}:
            self.assertTrue((folder / "__init__.py").exists(), folder)

    def test_characters_and_sizes(self):
        for path in files():
            text = path.read_text()
            self.assertTrue(all(sign == "\n" or " " <= sign <= "~" for sign in text), path)
            self.assertLessEqual(len(text.splitlines()), 399, path)
            for line in text.splitlines():
                self.assertLessEqual(len(line), 120, path)

    def test_functions_are_short(self):
        for path, node in nodes():
            if isinstance(node, ast.FunctionDef):
                self.assertLessEqual(node.end_lineno - node.lineno + 1, 40, (path, node.name))

    def test_imports(self):
        for path, node in nodes():
            self.assertNotIsInstance(node, ast.Import, path)
            if isinstance(node, ast.ImportFrom):
                self.assertEqual(node.level, 0, path)
                self.assertIn(node.module.split(".")[0], ("fewnames",) + LIBRARY, path)

    def test_no_floats(self):
        for path, node in nodes():
            self.assertNotIsInstance(node, ast.Div, path)
            if isinstance(node, ast.Constant):
                self.assertNotIsInstance(node.value, float, path)

    def test_imports_are_used_and_bound_once(self):
        for path in files():
            tree = ast.parse(path.read_text())
            used = {node.id for node in ast.walk(tree) if isinstance(node, ast.Name)}
            bound = [one.name for node in tree.body if isinstance(node, ast.ImportFrom) for one in node.names]
            self.assertEqual(set(bound) - used, set(), path)
            bound += [node.name for node in tree.body if isinstance(node, (ast.FunctionDef, ast.ClassDef))]
            self.assertEqual(len(bound), len(set(bound)), path)
            names = {node.id for node in ast.walk(tree) if isinstance(node, ast.Name) and isinstance(node.ctx, ast.Store)}
            names |= {node.arg for node in ast.walk(tree) if isinstance(node, ast.arg)}
            self.assertEqual(names & set(bound), set(), path)

    def test_builtins(self):
        for path, node in nodes():
            if isinstance(node, ast.Name) and hasattr(builtins, node.id):
                self.assertIn(node.id, BUILTINS, path)
                self.assertIsInstance(node.ctx, ast.Load, (path, node.id))
            if isinstance(node, ast.arg):
                self.assertFalse(hasattr(builtins, node.arg), (path, node.arg))

    def test_methods(self):
        own = own_methods()
        for path, node in nodes():
            if isinstance(node, ast.Call) and isinstance(node.func, ast.Attribute):
                self.assertIn(node.func.attr, own.union(METHODS), path)

    def test_words_that_are_not_used(self):
        for path in files():
            with open(path, "rb") as file:
                words = {one.string for one in tokenize.tokenize(file.readline) if one.type == tokenize.NAME}
            self.assertEqual(words.intersection(UNUSED), set(), path)

    def test_statements_and_expressions(self):
        for path, node in nodes():
            self.assertNotIsInstance(node, (ast.GeneratorExp, ast.Global, ast.AsyncFunctionDef, ast.Await), path)
            if isinstance(node, ast.Compare):
                for sign, other in zip(node.ops, node.comparators):
                    if isinstance(sign, (ast.Is, ast.IsNot)):
                        self.assertIsInstance(other, ast.Constant, path)
            if isinstance(node, ast.Raise):
                self.assertIsInstance(node.exc, ast.Call, path)
            if isinstance(node, ast.JoinedStr):
                self.assertEqual(node.lineno, node.end_lineno, path)
            if isinstance(node, ast.Constant) and isinstance(node.value, str):
                self.assertNotIn("%", node.value, path)

    def test_functions_and_classes_are_explained(self):
        for path, node in nodes():
            if isinstance(node, (ast.FunctionDef, ast.ClassDef)) and not node.name.startswith("__"):
                self.assertTrue(ast.get_docstring(node), (path, node.name))


if __name__ == "__main__":
    unittest.main()
