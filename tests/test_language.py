"""The rules of LANGUAGE.md that a look at each file can see."""

import ast
import builtins
import functools
import pathlib
import re
import unittest

PACKAGE = pathlib.Path(__file__).resolve().parent.parent / "relayholds"

NODES = set("""
Module Expr Constant ImportFrom alias FunctionDef arguments arg Return ClassDef Pass Raise Assert Delete Try
ExceptHandler Assign AugAssign If While For Break Continue Name Load Store Del Attribute Subscript Slice Call keyword
List Tuple Dict Set ListComp DictComp SetComp comprehension BinOp Add Sub Mult FloorDiv Mod Pow LShift RShift BitAnd
BitOr BitXor UnaryOp USub Not Invert BoolOp And Or Compare Eq NotEq Lt LtE Gt GtE Is IsNot In NotIn IfExp Lambda
JoinedStr FormattedValue Starred
""".split())

BUILTINS = set("""
len range enumerate zip min max sum abs sorted reversed int str bool bytes list tuple dict set frozenset isinstance
ord repr any all divmod Exception ValueError TypeError KeyError IndexError LookupError ZeroDivisionError
ArithmeticError OverflowError RuntimeError NotImplementedError AttributeError StopIteration
""".split())

METHODS = set("""
append clear copy count endswith extend find get index insert isalnum isalpha isdigit islower isspace isupper items
join keys ljust lower lstrip partition pop remove replace reverse rfind rjust rpartition rsplit rstrip setdefault
split splitlines startswith strip update upper values zfill bit_length sort add discard __init__
""".split())

BARRED_WORDS = set("""
type typing typing_extensions enum Enum IntEnum StrEnum Flag IntFlag Generic Protocol ABC ABCMeta namedtuple
NamedTuple TypedDict TYPE_CHECKING abstractmethod
""".split())

DOUBLE_UNDERSCORES = ("__init__", "__eq__", "__repr__", "__str__", "__len__")


ITERATED_AT_ONCE = ("zip", "enumerate", "reversed", "range")
ITERATING = set("list tuple dict sorted sum any all enumerate zip bytes min max".split())


@functools.cache
def files():
    return [(path.stem, path.read_text(encoding="utf-8")) for path in sorted(PACKAGE.glob("*.py"))]


@functools.cache
def trees():
    return [(name, ast.parse(text)) for name, text in files()]


def nodes_of(kind):
    return [(name, node) for name, tree in trees() for node in ast.walk(tree) if isinstance(node, kind)]


@functools.cache
def methods():
    return {item.name for _, node in nodes_of(ast.ClassDef) for item in node.body if isinstance(item, ast.FunctionDef)}


def bound_names():
    """All names that the package binds, but those of methods and attributes."""
    found = [(file, node.id) for file, node in nodes_of(ast.Name) if not isinstance(node.ctx, ast.Load)]
    found += [(file, node.arg) for file, node in nodes_of(ast.arg)]
    found += [(file, node.name) for file, node in nodes_of(ast.ClassDef)]
    found += [(file, node.name) for file, node in nodes_of(ast.FunctionDef) if node.name not in methods()]
    return found


def parents(tree):
    return {child: node for node in ast.walk(tree) for child in ast.iter_child_nodes(node)}


def calls_of(node, names):
    """Whether a node is a call of one of the named functions."""
    return isinstance(node, ast.Call) and isinstance(node.func, ast.Name) and node.func.id in names


class LanguageTest(unittest.TestCase):

    def test_files(self):
        for path in PACKAGE.iterdir():
            if path.name != "__pycache__":
                self.assertRegex(path.name, r"\A[a-z0-9_]+\.py\Z")
        self.assertIn("__init__", [name for name, _ in files()])

    def test_signs_and_sizes(self):
        for name, text in files():
            self.assertRegex(text, r"\A[ -~\n]*\Z", name)
            self.assertLessEqual(text.count("\n"), 400, name)
            self.assertLessEqual(max(len(line) for line in text.split("\n")), 120, name)
        for name, node in nodes_of(ast.FunctionDef):
            self.assertLessEqual(node.end_lineno - node.lineno + 1, 40, (name, node.name))

    def test_barred_words(self):
        for name, text in files():
            self.assertEqual(set(re.findall(r"\w+", text)) & BARRED_WORDS, set(), name)
            for part in ("dataclass", "overload", "contextmanager"):
                self.assertNotIn(part, text)

    def test_kinds_of_code(self):
        for name, tree in trees():
            found = {type(node).__name__ for node in ast.walk(tree)}
            self.assertEqual(found - NODES, set(), name)

    def test_module_level(self):
        for name, tree in trees():
            for node in tree.body:
                self.assertIsInstance(node, (ast.Expr, ast.ImportFrom, ast.FunctionDef, ast.ClassDef, ast.Assign), name)
                if isinstance(node, ast.Expr):
                    self.assertIsInstance(node.value, ast.Constant, name)
                if isinstance(node, ast.Assign):
                    ast.literal_eval(node.value)
            bound = [node.name for node in tree.body if isinstance(node, (ast.FunctionDef, ast.ClassDef))]
            bound += [target.id for node in tree.body if isinstance(node, ast.Assign) for target in node.targets]
            bound += [item.name for node in tree.body if isinstance(node, ast.ImportFrom) for item in node.names]
            self.assertEqual(len(bound), len(set(bound)), name)

    def test_imports_name_the_file_that_defines(self):
        defined = {}
        for name, tree in trees():
            defined[f"relayholds.{name}"] = {getattr(node, "name", None) for node in tree.body} | {
                target.id for node in tree.body if isinstance(node, ast.Assign) for target in node.targets}
        for name, node in nodes_of(ast.ImportFrom):
            self.assertEqual(node.level, 0, name)
            for item in node.names:
                self.assertIn(item.name, defined[node.module], name)

    def test_no_two_files_import_from_each_other(self):
        waiting = {name: set() for name, _ in files()}
        for name, node in nodes_of(ast.ImportFrom):
            waiting[name].add(node.module.split(".")[1])
        while waiting:
            free = [name for name in waiting if not waiting[name] & set(waiting)]
            self.assertNotEqual(free, [], waiting)
            for name in free:
                del waiting[name]

    def test_parameters_and_decorators(self):
        for name, node in nodes_of((ast.FunctionDef, ast.ClassDef)):
            self.assertEqual(node.decorator_list, [], name)
        for name, node in nodes_of(ast.arguments):
            self.assertEqual((node.vararg, node.kwarg, node.posonlyargs), (None, None, []), name)

    def test_names(self):
        barred = set(dir(builtins))
        for name, bound in bound_names():
            self.assertRegex(bound, r"\A[A-Za-z][A-Za-z0-9_]*\Z", name)
            self.assertNotIn(bound, barred, name)
        own = {bound for _, bound in bound_names()}
        own |= {item.name for _, node in nodes_of(ast.ImportFrom) for item in node.names}
        for name, node in nodes_of(ast.Name):
            if node.id not in own:
                self.assertIn(node.id, BUILTINS, name)

    def test_methods_and_attributes(self):
        attributes = {node.attr for _, node in nodes_of(ast.Attribute) if isinstance(node.ctx, ast.Store)}
        self.assertEqual(attributes & methods(), set())
        for name, node in nodes_of(ast.Attribute):
            self.assertIn(node.attr, attributes | methods() | METHODS, name)
        for method in methods():
            if method.startswith("_"):
                self.assertIn(method, DOUBLE_UNDERSCORES)

    def test_strings(self):
        for name, node in nodes_of(ast.Constant):
            self.assertNotIsInstance(node.value, (float, complex), name)
            if isinstance(node.value, str):
                self.assertNotIn("%", node.value, name)

    def test_is_is_used_with_none_true_and_false_only(self):
        for name, node in nodes_of(ast.Compare):
            for operator, value in zip(node.ops, node.comparators):
                if isinstance(operator, (ast.Is, ast.IsNot)):
                    self.assertIsInstance(value, ast.Constant, name)
                    self.assertIn(value.value, (None, True, False), name)

    def test_local_names_are_no_imports_or_classes_of_the_file(self):
        for name, tree in trees():
            taken = {item.name for node in tree.body if isinstance(node, ast.ImportFrom) for item in node.names}
            taken |= {node.name for node in tree.body if isinstance(node, ast.ClassDef)}
            bound = {node.id for node in ast.walk(tree) if isinstance(node, ast.Name) and isinstance(node.ctx, ast.Store)}
            bound |= {node.arg for node in ast.walk(tree) if isinstance(node, ast.arg)}
            self.assertEqual(taken & bound, set(), name)

    def test_powers_have_literal_exponents(self):
        for name, node in nodes_of(ast.BinOp):
            if isinstance(node.op, ast.Pow):
                self.assertIsInstance(node.right, ast.Constant, name)

    def test_where_sets_stand(self):
        for name, tree in trees():
            above = parents(tree)
            for node in ast.walk(tree):
                if isinstance(node, (ast.Set, ast.SetComp)) or calls_of(node, ("set",)):
                    parent = above[node]
                    stored = isinstance(parent, ast.Assign) and isinstance(parent.targets[0], ast.Name)
                    self.assertTrue(stored or isinstance(parent, ast.Compare) or calls_of(parent, ("sorted", "len")),
                                    (name, node.lineno))

    def test_what_is_iterated_at_once(self):
        for name, tree in trees():
            above = parents(tree)
            for node in ast.walk(tree):
                if calls_of(node, ITERATED_AT_ONCE):
                    parent = above[node]
                    looped = isinstance(parent, (ast.For, ast.comprehension)) and parent.iter == node
                    self.assertTrue(looped or calls_of(parent, ITERATING), (name, node.lineno))

    def test_what_a_loop_goes_over_is_not_changed_in_it(self):
        for name, loop in nodes_of(ast.For):
            over = {node.id for node in ast.walk(loop.iter) if isinstance(node, ast.Name)}
            for node in [inner for line in loop.body for inner in ast.walk(line)]:
                if isinstance(node, ast.Attribute) and node.attr in ("append", "extend", "pop", "remove", "clear"):
                    self.assertNotIn(getattr(node.value, "id", None), over, (name, node.lineno))
