"""Those rules of LANGUAGE.md that can be read off the package's files without much ado."""

import ast
import builtins
import pathlib
import re
import unittest

PACKAGE = pathlib.Path(__file__).resolve().parent.parent / "toldpieces"
FILES = sorted(path for path in PACKAGE.rglob("*.py"))
TREES = {path: ast.parse(path.read_text()) for path in FILES}

ALLOWED = set("""
    len range enumerate zip min max sum abs sorted reversed int str bool list tuple dict set isinstance ord repr any
    all divmod iter next Exception ValueError TypeError KeyError IndexError LookupError ZeroDivisionError
    ArithmeticError OverflowError RuntimeError NotImplementedError AttributeError StopIteration NotImplemented
    property staticmethod classmethod super
""".split())
METHODS = set("""
    init eq repr str len enter exit call iter lt le gt ge ne add sub mul floordiv mod pow and or xor lshift rshift
    neg pos invert abs bool contains getitem setitem
""".split())
BARRED = """
    type typing typing_extensions enum Enum IntEnum StrEnum Flag IntFlag Generic Protocol ABC ABCMeta namedtuple
    NamedTuple TypedDict TYPE_CHECKING abstractmethod
""".split()
BARRED_ATTRIBUTES = """
    items keys values pop update append clear extend insert remove reverse setdefault sort args encode decode hex
    fromhex format format_map mro
""".split()
NO_GENERATOR = ("any", "all", "min", "max", "sum", "sorted")


def nodes_of(kinds):
    return [(path, node) for path in FILES for node in ast.walk(TREES[path]) if isinstance(node, kinds)]


def bound_names(node):
    if isinstance(node, ast.Name) and not isinstance(node.ctx, ast.Load):
        return [node.id]
    if isinstance(node, (ast.FunctionDef, ast.ClassDef)):
        return [node.name]
    if isinstance(node, ast.arg):
        return [node.arg]
    return []


class FilesTest(unittest.TestCase):
    def test_the_folder_holds_nothing_but_plain_files(self):
        self.assertLessEqual(len(FILES), 100)
        for path in PACKAGE.iterdir():
            if path.name != "__pycache__":
                self.assertRegex(path.name, r"^([a-z][a-z0-9_]*|__init__|__main__)\.py$")

    def test_lines_and_signs(self):
        for path in FILES:
            text = path.read_text()
            lines = text.split("\n")
            self.assertLessEqual(len(lines), 401, path)
            self.assertLessEqual(max(len(line) for line in lines), 120, path)
            self.assertIsNone(re.search(r"[^ -~\n]", text), path)

    def test_barred_words(self):
        for path in FILES:
            text = path.read_text()
            self.assertIsNone(re.search(r"\b(" + "|".join(BARRED) + r")\b", text), path)
            self.assertIsNone(re.search("dataclass|overload|contextmanager", text), path)

    def test_functions_are_short(self):
        for path, node in nodes_of(ast.FunctionDef):
            self.assertLessEqual(node.end_lineno - node.lineno + 1, 40, (path, node.name))


class NamesTest(unittest.TestCase):
    def test_imports_name_the_file_that_defines_the_name(self):
        for path, node in nodes_of((ast.Import, ast.ImportFrom)):
            self.assertIsInstance(node, ast.ImportFrom, path)
            self.assertEqual((node.level, node.module.split(".")[0]), (0, "toldpieces"), path)
            source = TREES[PACKAGE / (node.module.split(".")[1] + ".py")]
            bound = [name for row in source.body for part in [row, *getattr(row, "targets", [])]
                     for name in bound_names(part)]
            for alias in node.names:
                self.assertIn(alias.name, bound, path)

    def test_bound_names_are_plain_and_no_builtins(self):
        for path, node in nodes_of((ast.Name, ast.FunctionDef, ast.ClassDef, ast.arg)):
            for name in bound_names(node):
                if name.strip("_") not in METHODS or not isinstance(node, ast.FunctionDef):
                    self.assertRegex(name, "^[A-Za-z][A-Za-z0-9_]*$", path)
                    self.assertFalse(hasattr(builtins, name), (path, name))

    def test_no_other_builtins(self):
        for path, node in nodes_of(ast.Name):
            if isinstance(node.ctx, ast.Load) and hasattr(builtins, node.id):
                self.assertIn(node.id, ALLOWED, (path, node.lineno))


    def test_no_local_name_is_that_of_a_class_or_an_import_of_its_file(self):
        for path in FILES:
            taken = {node.name for node in TREES[path].body if isinstance(node, ast.ClassDef)}
            taken |= {alias.name for node in TREES[path].body if isinstance(node, ast.ImportFrom)
                      for alias in node.names}
            for function in ast.walk(TREES[path]):
                if isinstance(function, ast.FunctionDef):
                    names = {name for node in ast.walk(function) if node != function for name in bound_names(node)}
                    self.assertEqual(names & taken, set(), (path, function.name))

    def test_no_files_import_from_each_other(self):
        above = {path.stem: set() for path in FILES}
        for path, node in nodes_of(ast.ImportFrom):
            above[path.stem].add(node.module.split(".")[1])
        while above:
            free = [name for name in above if not above[name] & set(above)]
            self.assertTrue(free, above)
            for name in free:
                del above[name]


class ClassesTest(unittest.TestCase):
    def test_what_stands_at_module_level(self):
        for path in FILES:
            for node in TREES[path].body[1:]:
                self.assertIsInstance(node, (ast.ImportFrom, ast.FunctionDef, ast.ClassDef, ast.Assign), path)
            self.assertIsNotNone(ast.get_docstring(TREES[path]), path)

    def test_what_stands_in_a_class(self):
        for path, node in nodes_of(ast.ClassDef):
            self.assertEqual(node.decorator_list, [])
            for at, row in enumerate(node.body):
                if at > 0 or ast.get_docstring(node) is None:
                    self.assertIsInstance(row, (ast.FunctionDef, ast.Assign), (path, node.name))

    def test_no_name_is_a_method_and_an_attribute(self):
        methods = {row.name for path, node in nodes_of(ast.ClassDef) for row in node.body
                   if isinstance(row, ast.FunctionDef)}
        stored = {node.attr for path, node in nodes_of(ast.Attribute) if isinstance(node.ctx, ast.Store)}
        self.assertEqual(methods & stored, set())
        self.assertEqual(stored & set(BARRED_ATTRIBUTES), set())


class ExpressionsTest(unittest.TestCase):
    def test_no_floats_and_no_sign_37_in_texts(self):
        for path, node in nodes_of(ast.Constant):
            self.assertNotIsInstance(node.value, (float, complex), (path, node.lineno))
            if isinstance(node.value, str):
                self.assertNotIn("%", node.value, (path, node.lineno))
        for path, node in nodes_of(ast.BinOp):
            self.assertNotIsInstance(node.op, (ast.Div, ast.MatMult), (path, node.lineno))

    def test_is_only_beside_none_true_and_false(self):
        for path, node in nodes_of(ast.Compare):
            for sign, right in zip(node.ops, node.comparators):
                if isinstance(sign, (ast.Is, ast.IsNot)):
                    self.assertIn(getattr(right, "value", 0), (None, True, False), (path, node.lineno))

    def test_lists_where_a_class_with_eq_forbids_generators(self):
        for path, node in nodes_of(ast.Call):
            if isinstance(node.func, ast.Name) and node.func.id in NO_GENERATOR:
                for argument in node.args:
                    self.assertNotIsInstance(argument, ast.GeneratorExp, (path, node.lineno))

    def test_no_statement_outside_the_subset(self):
        for path, node in nodes_of((ast.Global, ast.AsyncFunctionDef, ast.AsyncFor, ast.AsyncWith, ast.Await)):
            self.fail((path, node.lineno))


if __name__ == "__main__":
    unittest.main()
