"""The form of the package's files: a part of the rules L1 to L28.

Looked at are files, sizes, imports, tops, kinds of statements and expressions, and names (L1 to L8, L10, L12, L14,
L16 to L18, L20, L25 to L27, each in part). What L11, L13, L15, L19, L22 to L24 and L28 say is hardly looked at here.
"""

import ast
import builtins
import pathlib
import re
import unittest

PACKAGE = pathlib.Path(__file__).resolve().parent.parent / "beatless"
FILES = sorted(PACKAGE.rglob("*.py"))
LET_BUILTINS = set(
    "len range enumerate zip min max sum abs sorted reversed int str bool list tuple dict set frozenset isinstance "
    "ord repr any all divmod Exception ValueError TypeError KeyError IndexError LookupError ZeroDivisionError "
    "ArithmeticError OverflowError RuntimeError NotImplementedError AttributeError StopIteration".split()
)
LET_METHODS = set(
    "append clear copy count endswith extend find get index insert isalnum isalpha isdigit islower isspace isupper "
    "items join keys ljust lower lstrip partition pop remove replace reverse rfind rjust rpartition rsplit rstrip "
    "setdefault split splitlines startswith strip update upper values zfill bit_length".split()
)
OWN_UNDERSCORED = {"__init__", "__eq__", "__repr__", "__str__", "__len__"}
NOWHERE = re.compile(
    r"\b(type|typing|typing_extensions|enum|Enum|IntEnum|StrEnum|Flag|IntFlag|Generic|Protocol|ABC|ABCMeta|namedtuple|"
    r"NamedTuple|TypedDict|TYPE_CHECKING|abstractmethod|register|mro|elements|open|input|version_info|with_traceback|"
    r"add_note)\b|dataclass|overload|contextmanager"
)
LET_NODES = (
    ast.Module, ast.ImportFrom, ast.alias, ast.FunctionDef, ast.arguments, ast.arg, ast.ClassDef, ast.Assign,
    ast.AugAssign, ast.If, ast.While, ast.For, ast.Return, ast.Break, ast.Continue, ast.Pass, ast.Raise, ast.Try,
    ast.ExceptHandler, ast.Expr, ast.Constant, ast.List, ast.Tuple, ast.Dict, ast.BinOp, ast.UnaryOp, ast.BoolOp,
    ast.Compare, ast.IfExp, ast.Call, ast.keyword, ast.Attribute, ast.Subscript, ast.Slice, ast.ListComp,
    ast.comprehension, ast.Lambda, ast.Name, ast.JoinedStr, ast.FormattedValue, ast.expr_context, ast.boolop,
    ast.cmpop, ast.unaryop, ast.operator,
)
PLAIN_VALUES = (ast.Constant, ast.List, ast.Tuple, ast.Dict, ast.Name, ast.expr_context, ast.UnaryOp, ast.USub)


def tree_of(path):
    return ast.parse(path.read_text(encoding="utf-8"))


def nodes_of(kinds):
    for path in FILES:
        for node in ast.walk(tree_of(path)):
            if isinstance(node, kinds):
                yield path.name, node


def bound_names(tree):
    for node in ast.walk(tree):
        if isinstance(node, ast.Name) and isinstance(node.ctx, ast.Store):
            yield node.id
        elif isinstance(node, ast.arg):
            yield node.arg
        elif isinstance(node, (ast.FunctionDef, ast.ClassDef)):
            yield node.name


class Files(unittest.TestCase):
    def test_nothing_else_lies_in_the_package(self):
        for path in PACKAGE.rglob("*"):
            if "__pycache__" not in path.parts:
                self.assertRegex(path.name, r"^[a-z0-9_]+\.py$")
        self.assertTrue((PACKAGE / "__init__.py").is_file())

    def test_signs_and_sizes(self):
        for path in FILES:
            text = path.read_bytes().decode("ascii")
            self.assertRegex(text, r"\A[ -~\n]*\Z")
            self.assertIsNone(NOWHERE.search(text), path.name)
            rows = text.split("\n")
            self.assertLessEqual(len(rows), 400, path.name)
            for row in rows:
                self.assertLessEqual(len(row), 120, path.name)

    def test_functions_are_short(self):
        for name, node in nodes_of(ast.FunctionDef):
            self.assertLessEqual(node.end_lineno - node.lineno + 1, 40, (name, node.name))


class Imports(unittest.TestCase):
    def test_each_from_the_file_that_defines_it(self):
        for name, node in nodes_of(ast.ImportFrom):
            self.assertEqual(node.level, 0)
            self.assertTrue(node.module.startswith("beatless."), (name, node.module))
            source = tree_of(PACKAGE / (node.module.split(".")[1] + ".py"))
            defined = [each.name for each in source.body if isinstance(each, (ast.FunctionDef, ast.ClassDef))]
            for each in node.names:
                self.assertIsNone(each.asname)
                self.assertIn(each.name, defined, name)

    def test_no_two_files_draw_from_one_another(self):
        draws = {path.stem: [] for path in FILES}
        for name, node in nodes_of(ast.ImportFrom):
            draws[name[:-3]].append(node.module.split(".")[1])
        while draws:
            free = [name for name in draws if not any(each in draws for each in draws[name])]
            self.assertTrue(free, draws)
            for name in free:
                draws.pop(name)


class Tops(unittest.TestCase):
    def test_a_docstring_then_plain_things(self):
        for path in FILES:
            tree = tree_of(path)
            self.assertIsNotNone(ast.get_docstring(tree), path.name)
            names = []
            for node in tree.body[1:]:
                self.assertIsInstance(node, (ast.ImportFrom, ast.FunctionDef, ast.ClassDef, ast.Assign), path.name)
                if isinstance(node, ast.Assign):
                    names.append(node.targets[0].id)
                    for each in ast.walk(node.value):
                        self.assertIsInstance(each, PLAIN_VALUES, path.name)
                elif isinstance(node, ast.ImportFrom):
                    names.extend(each.name for each in node.names)
                else:
                    names.append(node.name)
            self.assertEqual(len(names), len(set(names)), path.name)


class Forms(unittest.TestCase):
    def test_no_other_statements_and_expressions(self):
        for name, node in nodes_of(ast.AST):
            self.assertIsInstance(node, LET_NODES, (name, getattr(node, "lineno", 0)))

    def test_statements(self):
        for name, node in nodes_of(ast.Assign):
            self.assertEqual(len(node.targets), 1, (name, node.lineno))
            self.assertNotIsInstance(node.targets[0], (ast.Tuple, ast.List), (name, node.lineno))
        for name, node in nodes_of((ast.For, ast.While)):
            self.assertEqual(node.orelse, [], (name, node.lineno))
        for name, node in nodes_of((ast.FunctionDef, ast.ClassDef)):
            self.assertEqual(node.decorator_list, [], (name, node.lineno))
        for name, node in nodes_of(ast.arguments):
            self.assertEqual((node.vararg, node.kwarg, node.kwonlyargs, node.posonlyargs), (None, None, [], []), name)
        for name, node in nodes_of(ast.ListComp):
            self.assertEqual(len(node.generators), 1, (name, node.lineno))
            self.assertLessEqual(len(node.generators[0].ifs), 1, (name, node.lineno))

    def test_bare_expressions_are_calls_or_the_docstring(self):
        for path in FILES:
            tree = tree_of(path)
            for node in ast.walk(tree):
                if isinstance(node, ast.Expr) and node != tree.body[0]:
                    self.assertIsInstance(node.value, ast.Call, (path.name, node.lineno))

    def test_values_and_operators(self):
        for name, node in nodes_of(ast.Constant):
            self.assertIsInstance(node.value, (int, str, type(None)), (name, node.lineno))
        for name, node in nodes_of((ast.Div, ast.MatMult)):
            self.fail(name)
        for name, node in nodes_of(ast.BinOp):
            if isinstance(node.op, ast.Pow):
                self.assertIn(getattr(node.right, "value", None), range(65), (name, node.lineno))
        for name, node in nodes_of(ast.Compare):
            if any(isinstance(op, (ast.Is, ast.IsNot)) for op in node.ops):
                self.assertTrue(all(isinstance(each, ast.Constant) for each in node.comparators), (name, node.lineno))

    def test_errors_are_made_on_the_spot(self):
        for name, node in nodes_of(ast.Raise):
            self.assertIsInstance(node.exc, ast.Call, (name, node.lineno))
            self.assertEqual(node.exc.keywords, [], (name, node.lineno))


class Names(unittest.TestCase):
    def test_plain_and_none_of_pythons_own(self):
        for path in FILES:
            for name in bound_names(tree_of(path)):
                if name not in OWN_UNDERSCORED:
                    self.assertRegex(name, r"^[A-Za-z][A-Za-z0-9_]*$", path.name)
                    self.assertFalse(hasattr(builtins, name), (path.name, name))

    def test_only_the_listed_of_pythons_own_are_used(self):
        for path in FILES:
            tree = tree_of(path)
            own = set(bound_names(tree))
            for node in ast.walk(tree):
                if isinstance(node, ast.ImportFrom):
                    own.update(each.name for each in node.names)
            for node in ast.walk(tree):
                if isinstance(node, ast.Name) and node.id not in own:
                    self.assertIn(node.id, LET_BUILTINS, (path.name, node.lineno))

    def test_methods_and_values(self):
        methods = set()
        values = set()
        for name, node in nodes_of(ast.ClassDef):
            for each in node.body:
                self.assertIsInstance(each, (ast.FunctionDef, ast.Pass), (name, each.lineno))
                if isinstance(each, ast.FunctionDef):
                    methods.add(each.name)
        for name, node in nodes_of(ast.Attribute):
            if isinstance(node.ctx, ast.Store):
                values.add(node.attr)
        self.assertEqual(methods & values, set())
        for kind in (str, int, list, dict, set, bytes, tuple):
            for name in sorted((methods | values) - OWN_UNDERSCORED):
                self.assertFalse(hasattr(kind, name), name)
        for name, node in nodes_of(ast.Call):
            if isinstance(node.func, ast.Attribute):
                self.assertIn(node.func.attr, LET_METHODS | methods, (name, node.lineno))


if __name__ == "__main__":
    unittest.main()
