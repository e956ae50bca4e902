"""The rules of ../shared/LANGUAGE.md that can be seen from the files alone, for every file of the package."""

import ast
import re
import unittest
import warnings

from helper import PACKAGE

BUILTINS = {
    "len", "range", "enumerate", "zip", "min", "max", "sum", "abs", "sorted", "reversed", "int", "str", "bool",
    "list", "tuple", "dict", "set", "isinstance", "ord", "repr", "any", "all", "divmod", "iter",
    "ValueError", "KeyError", "IndexError", "LookupError", "NotImplemented",
}
OPERATORS = {"__add__": ["self", "other"], "__sub__": ["self", "other"], "__mul__": ["self", "other"], "__neg__": ["self"]}
DOUBLE = {"__init__", "__eq__", "__repr__", "__str__", "__len__", "__iter__", *OPERATORS}
BARRED_WORDS = (
    "type", "typing", "typing_extensions", "enum", "Enum", "IntEnum", "StrEnum", "Flag", "IntFlag", "Generic",
    "Protocol", "ABC", "ABCMeta", "namedtuple", "NamedTuple", "TypedDict", "TYPE_CHECKING", "abstractmethod",
)
BARRED_NAMES = {
    "register", "mro", "elements", "open", "input", "law", "version_info", "with_traceback", "add_note",
    "attrgetter", "breakpoint", "builtins", "compile", "copyright", "credits", "delattr", "dir", "eval", "exec",
    "exit", "gc", "getattr", "globals", "hasattr", "help", "id", "importlib", "license", "locals", "methodcaller",
    "os", "quit", "setattr", "super", "type", "vars", "sys", "print", "iter", "next", "map", "filter", "hash",
}
STATEMENTS = (
    ast.Assign, ast.AugAssign, ast.If, ast.While, ast.For, ast.Return, ast.Break, ast.Continue, ast.Pass, ast.Raise,
    ast.Assert, ast.Delete, ast.Try, ast.Expr, ast.FunctionDef, ast.ClassDef, ast.ImportFrom,
)
BARRED_NODES = (
    ast.Set, ast.SetComp, ast.Global, ast.Nonlocal, ast.AsyncFunctionDef, ast.Await, ast.NamedExpr, ast.Div,
    ast.With, ast.Match, ast.AnnAssign, ast.Import,
)


def files():
    return sorted(PACKAGE.rglob("*.py"))


def trees():
    return [(path.name, ast.parse(path.read_text())) for path in files()]


def nodes(kind):
    return [(name, node) for name, tree in trees() for node in ast.walk(tree) if isinstance(node, kind)]


def own_names(tree):
    """Return the names that a file binds: imports, functions, classes, parameters, variables."""
    names = {node.id for node in ast.walk(tree) if isinstance(node, ast.Name) and isinstance(node.ctx, ast.Store)}
    names |= {node.arg for node in ast.walk(tree) if isinstance(node, ast.arg)}
    names |= {node.name for node in ast.walk(tree) if isinstance(node, ast.ExceptHandler) and node.name is not None}
    names |= {node.name for node in ast.walk(tree) if isinstance(node, (ast.FunctionDef, ast.ClassDef))}
    return names | {alias.name for node in ast.walk(tree) if isinstance(node, ast.ImportFrom) for alias in node.names}


class FilesTest(unittest.TestCase):
    def test_folder_holds_nothing_else(self):
        for path in PACKAGE.iterdir():
            if path.name != "__pycache__":
                self.assertRegex(path.name, "^[a-z_]+[.]py$")
        self.assertIn("__init__.py", [path.name for path in PACKAGE.iterdir()])

    def test_sizes_and_characters(self):
        for path in files():
            text = path.read_text(encoding="utf-8")
            lines = text.split("\n")
            self.assertLessEqual(len(lines), 400, path.name)
            self.assertTrue(all(len(line) <= 120 for line in lines), path.name)
            self.assertTrue(all(sign == "\n" or " " <= sign <= "~" for sign in text), path.name)
        for name, node in nodes(ast.FunctionDef):
            self.assertLessEqual(node.end_lineno - node.lineno + 1, 40, (name, node.name))

    def test_python_warns_of_nothing(self):
        with warnings.catch_warnings():
            warnings.simplefilter("error")
            for path in files():
                compile(path.read_text(), path.name, "exec")

    def test_barred_words(self):
        for path in files():
            for word in BARRED_WORDS:
                self.assertIsNone(re.search(rf"\b{word}\b", path.read_text()), (path.name, word))


class CodeTest(unittest.TestCase):
    def test_statements(self):
        for name, node in nodes(ast.stmt):
            self.assertIsInstance(node, STATEMENTS, (name, node.lineno))
        for name, tree in trees():
            for node in ast.walk(tree):
                self.assertNotIsInstance(node, BARRED_NODES, (name, getattr(node, "lineno", 0)))

    def test_module_level(self):
        for name, tree in trees():
            for node in tree.body:
                kinds = (ast.Expr, ast.ImportFrom, ast.FunctionDef, ast.ClassDef, ast.Assign)
                self.assertIsInstance(node, kinds, (name, node.lineno))
                if isinstance(node, ast.Expr):
                    self.assertIsInstance(node.value.value, str)

    def test_imports_come_from_the_file_that_defines_the_name(self):
        defined = {f"orderforms.{name[:-3]}": {
            part.targets[0].id if isinstance(part, ast.Assign) else part.name
            for part in tree.body if isinstance(part, (ast.Assign, ast.FunctionDef, ast.ClassDef))
        } for name, tree in trees()}
        for name, node in nodes(ast.ImportFrom):
            self.assertEqual(node.level, 0, name)
            for alias in node.names:
                self.assertIsNone(alias.asname, name)
                self.assertIn(alias.name, defined[node.module], name)

    def test_no_two_files_import_from_each_other(self):
        rest = {name: {node.module[11:] + ".py" for node in tree.body if isinstance(node, ast.ImportFrom)}
                for name, tree in trees()}
        while rest:
            free = [name for name in rest if not rest[name] & set(rest)]
            self.assertNotEqual(free, [], rest)
            for name in free:
                del rest[name]

    def test_names(self):
        for name, tree in trees():
            bound = own_names(tree)
            self.assertEqual(bound & (BUILTINS | BARRED_NAMES), set(), name)
            for word in bound - DOUBLE:
                self.assertRegex(word, "^(_|_?[A-Za-z][A-Za-z0-9_]*)$", name)
            read = {node.id for node in ast.walk(tree) if isinstance(node, ast.Name)}
            self.assertEqual(read - bound - BUILTINS, set(), name)

    def test_local_names_are_no_imports_functions_or_classes_of_the_file(self):
        for name, tree in trees():
            taken = {alias.name for node in tree.body if isinstance(node, ast.ImportFrom) for alias in node.names}
            taken |= {node.name for node in tree.body if isinstance(node, (ast.FunctionDef, ast.ClassDef))}
            inner = {node.id for node in ast.walk(tree) if isinstance(node, ast.Name) and isinstance(node.ctx, ast.Store)}
            inner |= {node.arg for node in ast.walk(tree) if isinstance(node, ast.arg)}
            inner |= {node.name for node in ast.walk(tree) if isinstance(node, ast.ExceptHandler)}
            self.assertEqual(inner & taken, set(), name)

    def test_no_decorators_and_no_annotations(self):
        for name, node in nodes((ast.FunctionDef, ast.ClassDef)):
            self.assertEqual(node.decorator_list, [], (name, node.name))
            if isinstance(node, ast.FunctionDef):
                self.assertIsNone(node.returns)
                self.assertTrue(all(arg.annotation is None for arg in node.args.args))

    def test_operators_take_one_other_and_assign_no_attribute(self):
        for name, node in nodes(ast.FunctionDef):
            if node.name in OPERATORS:
                self.assertEqual([arg.arg for arg in node.args.args], OPERATORS[node.name], (name, node.name))
                for part in ast.walk(node):
                    self.assertNotIsInstance(part, (ast.AugAssign, ast.Delete, ast.Lambda), (name, node.name))
                    if isinstance(part, (ast.Attribute, ast.Subscript)):
                        self.assertIsInstance(part.ctx, ast.Load, (name, node.name))

    def test_double_underscore_methods_keep_no_range_or_zip(self):
        for name, node in nodes(ast.FunctionDef):
            if node.name in DOUBLE - {"__init__"}:
                for part in ast.walk(node):
                    if isinstance(part, ast.Assign) and isinstance(part.value, ast.Call):
                        told = ast.unparse(part.value.func)
                        self.assertNotIn(told, ("range", "zip", "enumerate", "reversed"), (name, part.lineno))

    def test_generators_are_iterated_at_once(self):
        made = {node.name for name, node in nodes(ast.FunctionDef) if any(
            isinstance(part, (ast.Yield, ast.YieldFrom)) for part in ast.walk(node))}
        self.assertIn("parts", made)
        for name, tree in trees():
            at_once = set()
            for node in ast.walk(tree):
                if isinstance(node, (ast.For, ast.comprehension)):
                    at_once.add(node.iter)
                if isinstance(node, ast.YieldFrom):
                    at_once.add(node.value)
                if isinstance(node, ast.Call) and isinstance(node.func, ast.Name) and node.func.id in ("list", "tuple"):
                    at_once |= set(node.args)
            for node in ast.walk(tree):
                if isinstance(node, ast.Call) and isinstance(node.func, ast.Name) and node.func.id in made:
                    self.assertIn(node, at_once, (name, node.lineno))

    def test_iter_stands_alone_in_its_method(self):
        found = [node for name, node in nodes(ast.Call) if isinstance(node.func, ast.Name) and node.func.id == "iter"]
        methods = [node for name, node in nodes(ast.FunctionDef) if node.name == "__iter__"]
        self.assertEqual(len(found), len(methods))
        for node in methods:
            self.assertEqual(len(node.body), 1)
            self.assertRegex(ast.unparse(node.body[0]), "^return iter[(]self[.][a-z]+[)]$")

    def test_exponents_are_small_literals(self):
        for name, node in nodes(ast.BinOp):
            if isinstance(node.op, ast.Pow):
                self.assertIsInstance(node.right, ast.Constant, (name, node.lineno))
                self.assertIn(node.right.value, range(65), (name, node.lineno))

    def test_handlers_name_own_errors(self):
        for name, node in nodes(ast.ExceptHandler):
            self.assertIn(ast.unparse(node.type), ("Fault", "Malformed", "Refused", "NoText"), (name, node.lineno))

    def test_any_and_all_take_lists(self):
        for name, node in nodes(ast.GeneratorExp):
            self.fail((name, node.lineno))

    def test_strings(self):
        for name, node in nodes(ast.Constant):
            if isinstance(node.value, str):
                self.assertNotIn("%", node.value, (name, node.lineno))
            self.assertNotIsInstance(node.value, (float, complex, bytes), (name, node.lineno))


if __name__ == "__main__":
    unittest.main()
