"""The package keeps to the parts of the Python subset that can be seen in its syntax."""

import ast
import builtins
import pathlib
import re
import unittest

PACKAGE = pathlib.Path(__file__).resolve().parent.parent / "morethanhalf"

BARRED_NODES = (
    ast.With, ast.Match, ast.Global, ast.Nonlocal, ast.Yield, ast.YieldFrom, ast.Await, ast.AsyncFor,
    ast.AsyncFunctionDef, ast.AsyncWith, ast.GeneratorExp, ast.NamedExpr, ast.Div, ast.Import,
)

BUILTINS = set(
    "len range enumerate zip min max sum abs sorted reversed int str bool bytes list tuple dict set frozenset"
    " isinstance ord repr any all divmod".split()
)

METHODS = set(
    "append clear copy count endswith extend find get index insert isalnum isalpha isdigit islower isspace isupper"
    " items join keys ljust lower lstrip partition pop remove replace reverse rfind rjust rpartition rsplit rstrip"
    " setdefault split splitlines startswith strip update upper values zfill bit_length add discard sort".split()
)

BARRED_WORDS = (
    "type typing typing_extensions enum Enum IntEnum StrEnum Flag IntFlag Generic Protocol ABC ABCMeta namedtuple"
    " NamedTuple TypedDict TYPE_CHECKING abstractmethod".split()
)

DOUBLE_UNDERSCORE = ("__init__", "__eq__", "__repr__", "__str__", "__len__")


def files():
    return sorted(PACKAGE.rglob("*.py"))


def trees():
    return [(path.name, ast.parse(path.read_text())) for path in files()]


def bound_names(tree):
    """The names that a file gives a meaning, and where."""
    for node in ast.walk(tree):
        if isinstance(node, (ast.FunctionDef, ast.ClassDef)):
            yield node.name, node.lineno
        elif isinstance(node, ast.Name) and isinstance(node.ctx, ast.Store):
            yield node.id, node.lineno
        elif isinstance(node, ast.arg):
            yield node.arg, node.lineno


class TheFiles(unittest.TestCase):
    def test_only_python_files_with_plain_names(self):
        self.assertTrue(files())
        for path in PACKAGE.rglob("*"):
            if "__pycache__" not in path.parts:
                self.assertRegex(path.name, r"^([a-z0-9_]+\.py)$")

    def test_sizes_and_characters(self):
        for path in files():
            text = path.read_text()
            self.assertIsNone(re.search(r"[^ -~\n]", text), path.name)
            lines = text.split("\n")
            self.assertLessEqual(len(lines), 400, path.name)
            self.assertLessEqual(max(len(line) for line in lines), 120, path.name)

    def test_barred_words(self):
        barred = r"\b(" + "|".join(BARRED_WORDS) + r")\b|dataclass|overload|contextmanager"
        for path in files():
            self.assertIsNone(re.search(barred, path.read_text()), path.name)


class TheSyntax(unittest.TestCase):
    def test_barred_statements_and_expressions(self):
        for name, tree in trees():
            for node in ast.walk(tree):
                where = (name, getattr(node, "lineno", 0))
                self.assertNotIsInstance(node, BARRED_NODES, where)
                self.assertFalse(getattr(node, "decorator_list", []), where)
                if isinstance(node, (ast.For, ast.While)):
                    self.assertEqual(node.orelse, [], where)
                if isinstance(node, ast.Constant):
                    self.assertNotIsInstance(node.value, (float, complex), where)
                    if isinstance(node.value, str):
                        self.assertNotIn("%", node.value, where)

    def test_functions_are_short_and_plain(self):
        for name, tree in trees():
            for node in ast.walk(tree):
                if isinstance(node, ast.FunctionDef):
                    self.assertLessEqual(node.end_lineno - node.lineno + 1, 40, (name, node.name))
                    rest = (node.args.vararg, node.args.kwarg, node.args.posonlyargs)
                    self.assertEqual(rest, (None, None, []), (name, node.name))

    def test_imports_are_from_the_package(self):
        for name, tree in trees():
            for node in ast.walk(tree):
                if isinstance(node, ast.ImportFrom):
                    self.assertEqual(node.level, 0, name)
                    self.assertRegex(node.module, r"^(morethanhalf\.\w+|__future__)$", name)
                    self.assertNotIn("*", [each.name for each in node.names], name)
                    self.assertIn(node, tree.body, name)

    def test_module_level(self):
        allowed = (ast.Expr, ast.ImportFrom, ast.FunctionDef, ast.ClassDef, ast.Assign)
        for name, tree in trees():
            for node in tree.body:
                self.assertIsInstance(node, allowed, (name, node.lineno))
                if isinstance(node, ast.Expr):
                    self.assertIsInstance(node.value, ast.Constant, (name, node.lineno))


class TheNames(unittest.TestCase):
    def test_no_underscore_ahead_and_no_builtin_renamed(self):
        for name, tree in trees():
            for bound, line in bound_names(tree):
                if bound not in DOUBLE_UNDERSCORE:
                    self.assertFalse(bound.startswith("_"), (name, line, bound))
                    self.assertNotIn(bound, dir(builtins), (name, line))

    def test_no_import_is_given_another_meaning(self):
        for name, tree in trees():
            imports = [node for node in ast.walk(tree) if isinstance(node, ast.ImportFrom)]
            imported = [each.asname or each.name for node in imports for each in node.names]
            self.assertEqual(len(imported), len(set(imported)), name)
            for bound, line in bound_names(tree):
                self.assertNotIn(bound, imported, (name, line))

    def test_imports_name_the_file_that_defines_the_name(self):
        defined = {}
        for name, tree in trees():
            named = [node for node in tree.body if isinstance(node, (ast.FunctionDef, ast.ClassDef))]
            assigned = [node for node in tree.body if isinstance(node, ast.Assign)]
            names = [node.name for node in named] + [target.id for node in assigned for target in node.targets]
            self.assertEqual(len(names), len(set(names)), name)
            defined["morethanhalf." + name.removesuffix(".py")] = names
        for name, tree in trees():
            for node in ast.walk(tree):
                if isinstance(node, ast.ImportFrom) and node.module != "__future__":
                    for each in node.names:
                        self.assertIn(each.name, defined[node.module], (name, node.lineno))

    def test_called_names_are_own_or_allowed(self):
        own = {bound for name, tree in trees() for bound, line in bound_names(tree)}
        for name, tree in trees():
            for node in ast.walk(tree):
                if isinstance(node, ast.Call) and isinstance(node.func, ast.Name):
                    self.assertIn(node.func.id, BUILTINS | own, (name, node.lineno))
                if isinstance(node, ast.Call) and isinstance(node.func, ast.Attribute):
                    self.assertIn(node.func.attr, METHODS | own, (name, node.lineno))

    def test_imports_go_one_way(self):
        imported = {}
        for name, tree in trees():
            froms = [node.module for node in ast.walk(tree) if isinstance(node, ast.ImportFrom)]
            imported["morethanhalf." + name.removesuffix(".py")] = [each for each in froms if each != "__future__"]
        while imported:
            last = [name for name in imported if not any(each in imported for each in imported[name])]
            self.assertTrue(last, sorted(imported))
            for name in last:
                del imported[name]


class TheClasses(unittest.TestCase):
    def classes(self):
        return [node for name, tree in trees() for node in ast.walk(tree) if isinstance(node, ast.ClassDef)]

    def attributes(self, context):
        nodes = [node for name, tree in trees() for node in ast.walk(tree) if isinstance(node, ast.Attribute)]
        return {node.attr for node in nodes if isinstance(node.ctx, context)}

    def test_methods_and_attributes_have_names_of_their_own(self):
        for node in self.classes():
            methods = [each.name for each in node.body if isinstance(each, ast.FunctionDef)]
            self.assertEqual(len(methods), len(set(methods)), node.name)
            self.assertEqual(set(methods) & self.attributes(ast.Store), set(), node.name)
            for each in set(methods) - set(DOUBLE_UNDERSCORE):
                kinds = (str, int, list, dict, set, bytes, tuple)
                self.assertFalse([kind for kind in kinds if hasattr(kind, each)], (node.name, each))

    def test_attributes_that_are_read_are_assigned(self):
        methods = {each.name for node in self.classes() for each in node.body if isinstance(each, ast.FunctionDef)}
        self.assertEqual(self.attributes(ast.Load) - self.attributes(ast.Store) - methods - METHODS, set())

    def test_only_methods_in_a_class(self):
        for node in self.classes():
            self.assertLessEqual(len(node.bases), 1, node.name)
            for each in node.body:
                is_docstring = isinstance(each, ast.Expr) and isinstance(each.value, ast.Constant)
                self.assertTrue(isinstance(each, ast.FunctionDef) or is_docstring, node.name)


if __name__ == "__main__":
    unittest.main()
