"""Those rules of LANGUAGE.md that can be read off the package's files without much ado."""

import ast
import builtins
import pathlib
import re
import unittest

PACKAGE = pathlib.Path(__file__).resolve().parent.parent / "toldpieces"
FILES = sorted(path for path in PACKAGE.rglob("*.py"))
TREES = {path: ast.parse(path.read_text()) for path in FILES}

ALLOWED = set("""
    len range enumerate zip min max sum abs sorted reversed int str bool list tuple dict set isinstance ord repr any
    all divmod iter next Exception ValueError TypeError KeyError IndexError LookupError ZeroDivisionError
    ArithmeticError OverflowError RuntimeError NotImplementedError AttributeError StopIteration NotImplemented
    property staticmethod classmethod super
""".split())
METHODS = set("""
    init eq repr str len enter exit call iter lt le gt ge ne add sub mul floordiv mod pow and or xor lshift rshift
    neg pos invert abs bool contains getitem setitem
""".split())
BARRED = """
    type typing typing_extensions enum Enum IntEnum StrEnum Flag IntFlag Generic Protocol ABC ABCMeta namedtuple
    NamedTuple TypedDict TYPE_CHECKING abstractmethod
""".split()
BARRED_ATTRIBUTES = """
    items keys values pop update append clear extend insert remove reverse setdefault sort args encode decode hex
    fromhex format format_map mro
""".split()
BUILTIN_METHODS = set("""
    append clear copy count endswith extend find get index insert isalnum isalpha isdigit islower isspace isupper items
    join keys ljust lower lstrip partition pop remove replace reverse rfind rjust rpartition rsplit rstrip setdefault
    split splitlines startswith strip update upper values zfill bit_length
""".split())
KINDS = {"int", "str", "bool", "bytes", "list", "tuple", "dict"}
NO_GENERATOR = ("any", "all", "min", "max", "sum", "sorted")


def nodes_of(kinds):
    return [(path, node) for path in FILES for node in ast.walk(TREES[path]) if isinstance(node, kinds)]


def bound_names(node):
    if isinstance(node, ast.Name) and not isinstance(node.ctx, ast.Load):
        return [node.id]
    if isinstance(node, (ast.FunctionDef, ast.ClassDef)):
        return [node.name]
    if isinstance(node, ast.arg):
        return [node.arg]
    return []


class FilesTest(unittest.TestCase):
    def test_the_folder_holds_nothing_but_plain_files(self):
        self.assertLessEqual(len(FILES), 100)
        for path in PACKAGE.iterdir():
            if path.name != "__pycache__":
                self.assertRegex(path.name, r"^([a-z][a-z0-9_]*|__init__|__main__)\.py$")

    def test_lines_and_signs(self):
        for path in FILES:
            text = path.read_text()
            lines = text.split("\n")
            self.assertLessEqual(len(lines), 401, path)
            self.assertLessEqual(max(len(line) for line in lines), 120, path)
            self.assertIsNone(re.search(r"[^ -~\n]", text), path)

    def test_barred_words(self):
        for path in FILES:
            text = path.read_text()
            self.assertIsNone(re.search(r"\b(" + "|".join(BARRED) + r")\b", text), path)
            self.assertIsNone(re.search("dataclass|overload|contextmanager", text), path)

    def test_functions_are_short(self):
        for path, node in nodes_of(ast.FunctionDef):
            self.assertLessEqual(node.end_lineno - node.lineno + 1, 40, (path, node.name))


class NamesTest(unittest.TestCase):
    def test_imports_name_the_file_that_defines_the_name(self):
        for path, node in nodes_of((ast.Import, ast.ImportFrom)):
            self.assertIsInstance(node, ast.ImportFrom, path)
            self.assertEqual((node.level, node.module.split(".")[0]), (0, "toldpieces"), path)
            source = TREES[PACKAGE / (node.module.split(".")[1] + ".py")]
            bound = [name for row in source.body for part in [row, *getattr(row, "targets", [])]
                     for name in bound_names(part)]
            for alias in node.names:
                self.assertIn(alias.name, bound, path)

    def test_bound_names_are_plain_and_no_builtins(self):
        for path, node in nodes_of((ast.Name, ast.FunctionDef, ast.ClassDef, ast.arg)):
            for name in bound_names(node):
                if name.strip("_") not in METHODS or not isinstance(node, ast.FunctionDef):
                    self.assertRegex(name, "^[A-Za-z][A-Za-z0-9_]*$", path)
                    self.assertFalse(hasattr(builtins, name), (path, name))

    def test_no_other_builtins(self):
        for path, node in nodes_of(ast.Name):
            if isinstance(node.ctx, ast.Load) and hasattr(builtins, node.id):
                self.assertIn(node.id, ALLOWED, (path, node.lineno))

    def test_no_local_name_is_that_of_a_class_or_an_import_of_its_file(self):
        for path in FILES:
            taken = {node.name for node in TREES[path].body if isinstance(node, ast.ClassDef)}
            taken |= {alias.name for node in TREES[path].body if isinstance(node, ast.ImportFrom)
                      for alias in node.names}
            for function in ast.walk(TREES[path]):
                if isinstance(function, ast.FunctionDef):
                    names = {name for node in ast.walk(function) if node != function for name in bound_names(node)}
                    self.assertEqual(names & taken, set(), (path, function.name))

    def test_no_files_import_from_each_other(self):
        above = {path.stem: set() for path in FILES}
        for path, node in nodes_of(ast.ImportFrom):
            above[path.stem].add(node.module.split(".")[1])
        while above:
            free = [name for name in above if not above[name] & set(above)]
            self.assertTrue(free, above)
            for name in free:
                del above[name]


class ClassesTest(unittest.TestCase):
    def test_what_stands_at_module_level(self):
        for path in FILES:
            for node in TREES[path].body[1:]:
                self.assertIsInstance(node, (ast.ImportFrom, ast.FunctionDef, ast.ClassDef, ast.Assign), path)
            self.assertIsNotNone(ast.get_docstring(TREES[path]), path)

    def test_imports_stand_at_the_top(self):
        for path in FILES:
            kinds = [isinstance(node, ast.ImportFrom) for node in TREES[path].body[1:]]
            self.assertEqual(kinds, sorted(kinds, reverse=True), path)

    def test_what_stands_in_a_class(self):
        for path, node in nodes_of(ast.ClassDef):
            self.assertEqual(node.decorator_list, [])
            for at, row in enumerate(node.body):
                if at > 0 or ast.get_docstring(node) is None:
                    self.assertIsInstance(row, (ast.FunctionDef, ast.Assign), (path, node.name))

    def test_no_name_is_a_method_and_an_attribute(self):
        methods = {row.name for path, node in nodes_of(ast.ClassDef) for row in node.body
                   if isinstance(row, ast.FunctionDef)}
        stored = {node.attr for path, node in nodes_of(ast.Attribute) if isinstance(node.ctx, ast.Store)}
        self.assertEqual(methods & stored, set())
        self.assertEqual(stored & set(BARRED_ATTRIBUTES), set())


    def test_attributes_that_are_read_are_assigned_by_some_class(self):
        stored = {node.attr for path, node in nodes_of(ast.Attribute) if isinstance(node.ctx, ast.Store)}
        called = {id(node.func) for path, node in nodes_of(ast.Call)}
        for path, node in nodes_of(ast.Attribute):
            if isinstance(node.ctx, ast.Load) and id(node) not in called:
                self.assertIn(node.attr, stored, (path, node.lineno))

    def test_only_plain_methods_are_called(self):
        own = {row.name for path, node in nodes_of(ast.ClassDef) for row in node.body
               if isinstance(row, ast.FunctionDef)}
        for path, node in nodes_of(ast.Call):
            if isinstance(node.func, ast.Attribute):
                self.assertIn(node.func.attr, BUILTIN_METHODS | own, (path, node.lineno))

    def test_methods_with_double_underscores_assign_nothing(self):
        for path, node in nodes_of(ast.FunctionDef):
            if node.name in ("__eq__", "__str__", "__repr__", "__len__"):
                self.assertIsInstance(node.body[-1], ast.Return, path)
                for part in ast.walk(node):
                    self.assertNotIsInstance(part, (ast.Assign, ast.AugAssign, ast.Delete), (path, node.name))
            if node.name == "__len__":
                self.assertEqual(node.body[-1].value.func.id, "len")

    def test_default_values_are_plain(self):
        for path, node in nodes_of(ast.arguments):
            self.assertEqual((node.posonlyargs, node.vararg, node.kwarg), ([], None, None), path)
            for default in node.defaults + [one for one in node.kw_defaults if one is not None]:
                for part in ast.walk(default):
                    self.assertIsInstance(part, (ast.Constant, ast.Tuple, ast.Load), path)
        for path, node in nodes_of(ast.FunctionDef):
            self.assertEqual(node.decorator_list, [], (path, node.name))
            if node.name in BUILTIN_METHODS:
                self.assertEqual(node.args.kwonlyargs, [], (path, node.name))


class ErrorsTest(unittest.TestCase):
    def test_errors_are_made_where_they_are_raised(self):
        classes = {node.name for path, node in nodes_of(ast.ClassDef)}
        for path, node in nodes_of(ast.Raise):
            self.assertIsInstance(node.exc, ast.Call, (path, node.lineno))
            self.assertIn(node.exc.func.id, classes, (path, node.lineno))
            self.assertEqual(node.exc.keywords, [], (path, node.lineno))

    def test_own_errors_alone_are_caught(self):
        classes = {node.name for path, node in nodes_of(ast.ClassDef)}
        for path, node in nodes_of(ast.ExceptHandler):
            for name in getattr(node.type, "elts", [node.type]):
                self.assertIn(name.id, classes, (path, node.lineno))

    def test_what_stands_in_a_finally(self):
        for path, node in nodes_of(ast.Try):
            for row in node.finalbody:
                for part in ast.walk(row):
                    self.assertIsInstance(part, (ast.Assign, ast.Tuple, ast.Attribute, ast.Name, ast.Constant, ast.Expr,
                                                 ast.Call, ast.expr_context), (path, row.lineno))
                    if isinstance(part, ast.Call):
                        self.assertIn(part.func.attr, ("append", "clear"), (path, row.lineno))


class ExpressionsTest(unittest.TestCase):
    def test_no_floats_and_no_sign_37_in_texts(self):
        for path, node in nodes_of(ast.Constant):
            self.assertNotIsInstance(node.value, (float, complex), (path, node.lineno))
            if isinstance(node.value, str):
                self.assertNotIn("%", node.value, (path, node.lineno))
        for path, node in nodes_of(ast.BinOp):
            self.assertNotIsInstance(node.op, (ast.Div, ast.MatMult), (path, node.lineno))

    def test_is_only_beside_none_true_and_false(self):
        for path, node in nodes_of(ast.Compare):
            for sign, right in zip(node.ops, node.comparators):
                if isinstance(sign, (ast.Is, ast.IsNot)):
                    self.assertIn(getattr(right, "value", 0), (None, True, False), (path, node.lineno))

    def test_lists_where_a_class_with_eq_forbids_generators(self):
        for path, node in nodes_of(ast.Call):
            if isinstance(node.func, ast.Name) and node.func.id in NO_GENERATOR:
                for argument in node.args:
                    self.assertNotIsInstance(argument, ast.GeneratorExp, (path, node.lineno))

    def test_no_generators_and_no_sets(self):
        for path, node in nodes_of((ast.GeneratorExp, ast.Set, ast.SetComp, ast.Yield, ast.YieldFrom, ast.Match,
                                    ast.NamedExpr, ast.Pow)):
            self.fail((path, getattr(node, "lineno", node)))

    def test_kinds_that_are_asked_for(self):
        classes = {node.name for path, node in nodes_of(ast.ClassDef)}
        for path, node in nodes_of(ast.Call):
            if isinstance(node.func, ast.Name) and node.func.id == "isinstance":
                kinds = {kind.id for kind in getattr(node.args[1], "elts", [node.args[1]])}
                self.assertLessEqual(kinds, KINDS | classes, (path, node.lineno))

    def test_keywords_of_builtins(self):
        for path, node in nodes_of(ast.Call):
            if isinstance(node.func, ast.Name) and hasattr(builtins, node.func.id):
                for keyword in node.keywords:
                    self.assertIn(keyword.arg, ("key", "reverse", "default", "start", "strict"), (path, node.lineno))
            if isinstance(node.func, ast.Attribute) and node.func.attr in BUILTIN_METHODS:
                self.assertEqual(node.keywords, [], (path, node.lineno))

    def test_what_stands_behind_a_star(self):
        for path, node in nodes_of(ast.Starred):
            self.assertIsInstance(node.value, (ast.Name, ast.Attribute), (path, node.lineno))

    def test_nothing_within_a_comprehension_or_a_loop_changes_what_it_goes_through(self):
        changing = {"append", "clear", "extend", "insert", "pop", "remove", "reverse", "setdefault", "update", "sort"}
        for path, loop in nodes_of(ast.For):
            through = {ast.dump(part) for part in ast.walk(loop.iter) if isinstance(part, (ast.Name, ast.Attribute))}
            for node in [part for row in loop.body for part in ast.walk(row)]:
                if isinstance(node, ast.Call) and isinstance(node.func, ast.Attribute) and node.func.attr in changing:
                    self.assertNotIn(ast.dump(node.func.value), through, (path, node.lineno))

    def test_no_statement_outside_the_subset(self):
        for path, node in nodes_of((ast.Global, ast.AsyncFunctionDef, ast.AsyncFor, ast.AsyncWith, ast.Await)):
            self.fail((path, node.lineno))


if __name__ == "__main__":
    unittest.main()
