"""Holds the package's files to the rules of LANGUAGE.md that can be seen from their text."""

import ast
import builtins
import pathlib
import re
import unittest

PACKAGE = pathlib.Path(__file__).resolve().parent.parent / "stemshelf"
PATHS = sorted(PACKAGE.glob("*.py"))
TEXTS = {path.stem: path.read_text(encoding="utf-8") for path in PATHS}
TREES = {name: ast.parse(text) for name, text in TEXTS.items()}

NODES = set("""
Module FunctionDef ClassDef Return Assign AugAssign For While If Raise Try ImportFrom Expr Pass Break Continue
BoolOp BinOp UnaryOp IfExp Dict ListComp Compare Call FormattedValue JoinedStr Constant Attribute Subscript Name
List Tuple Slice Set Load Store And Or Add Sub Mult FloorDiv Mod Pow LShift RShift BitOr BitXor BitAnd Invert Not
UAdd USub Eq NotEq Lt LtE Gt GtE Is IsNot In NotIn comprehension ExceptHandler arguments arg keyword alias Lambda
""".split())
OWN_NAMES = set("""
len range enumerate zip min max sum abs sorted reversed int str bool list tuple dict set frozenset isinstance ord
repr any all divmod Exception ValueError TypeError KeyError IndexError LookupError ZeroDivisionError ArithmeticError
OverflowError RuntimeError NotImplementedError AttributeError StopIteration
""".split())
METHODS = set("""
append clear copy count endswith extend find get index insert isalnum isalpha isdigit islower isspace isupper items
join keys ljust lower lstrip partition pop remove replace reverse rfind rjust rpartition rsplit rstrip setdefault
split splitlines startswith strip update upper values zfill bit_length
""".split())
NO_VALUES = set("""
items keys values pop update append clear extend insert remove reverse setdefault sort args encode format
""".split())
UNUSED = set("register mro elements open input version_info with_traceback add_note format format_map".split())
UNWRITTEN = re.compile(
    r"\b(type|typing|typing_extensions|enum|Enum|IntEnum|StrEnum|Flag|IntFlag|Generic|Protocol|ABC|ABCMeta|namedtuple"
    r"|NamedTuple|TypedDict|TYPE_CHECKING|abstractmethod)\b|dataclass|overload|contextmanager"
)
DUNDERS = ("__init__", "__eq__", "__repr__", "__str__", "__len__")
PLAIN = re.compile(r"[A-Za-z][A-Za-z0-9_]*")


WALKED = set("zip enumerate reversed range items keys values".split())
WALKERS = set("list tuple dict sorted sum any all enumerate zip min max".split())


def called(node):
    """The name of the def or method that a node calls, or None."""
    if not isinstance(node, ast.Call):
        return None
    return node.func.id if isinstance(node.func, ast.Name) else node.func.attr


def parents(tree):
    return {child: node for node in ast.walk(tree) for child in ast.iter_child_nodes(node)}


def is_walked_at_once(node, parent):
    if isinstance(parent, (ast.For, ast.comprehension)):
        return parent.iter is node
    if called(parent) in ("min", "max"):
        return parent.args == [node]
    if called(parent) in WALKERS and parent.args[0] is node:
        return True
    return called(parent) == "join" and isinstance(parent.func.value, ast.Constant)


def is_set_at_once(node, parent):
    if isinstance(parent, ast.BinOp):
        return True
    if isinstance(parent, ast.Compare):
        return isinstance(parent.ops[0], (ast.In, ast.NotIn, ast.Eq, ast.NotEq))
    return called(parent) in ("sorted", "len") and parent.keywords == []


def nodes(kind):
    for name, tree in TREES.items():
        for node in ast.walk(tree):
            if isinstance(node, kind):
                yield name, node


def methods():
    return {node.name for where, cls in nodes(ast.ClassDef) for node in cls.body if isinstance(node, ast.FunctionDef)}


def stored_values():
    return {node.attr for where, node in nodes(ast.Attribute) if isinstance(node.ctx, ast.Store)}


def bound_at_top(tree):
    bound = set()
    for node in tree.body:
        if isinstance(node, (ast.FunctionDef, ast.ClassDef)):
            bound.add(node.name)
        elif isinstance(node, ast.Assign):
            bound.update(target.id for target in node.targets)
    return bound


def imported(tree):
    return {alias.name for node in tree.body if isinstance(node, ast.ImportFrom) for alias in node.names}


def bound_within(tree):
    params = {node.arg for node in ast.walk(tree) if isinstance(node, ast.arg)}
    stored = {node.id for node in ast.walk(tree) if isinstance(node, ast.Name) and isinstance(node.ctx, ast.Store)}
    caught = {node.name for node in ast.walk(tree) if isinstance(node, ast.ExceptHandler) and node.name}
    return params | stored | caught


class LanguageTest(unittest.TestCase):
    def test_files(self):
        for path in PACKAGE.iterdir():
            if path.name != "__pycache__":
                self.assertRegex(path.name, r"\A([a-z][a-z0-9_]*|__init__)\.py\Z")

    def test_signs_and_sizes(self):
        for name, text in TEXTS.items():
            rows = text.split("\n")
            self.assertLessEqual(len(rows), 400, name)
            for number, row in enumerate(rows, start=1):
                self.assertRegex(row, r"\A[ -~]{0,120}\Z", f"{name}:{number}")
            self.assertIsNone(UNWRITTEN.search(text), name)
        for name, node in nodes(ast.FunctionDef):
            self.assertLessEqual(node.end_lineno - node.lineno + 1, 40, f"{name}:{node.lineno}")

    def test_node_kinds(self):
        for name, node in nodes(ast.AST):
            self.assertIn(node.__class__.__name__, NODES, f"{name}:{getattr(node, 'lineno', 0)}")

    def test_statements(self):
        for name, node in nodes((ast.Assign, ast.For, ast.While, ast.Try, ast.ListComp)):
            where = f"{name}:{node.lineno}"
            if isinstance(node, ast.Assign):
                self.assertEqual(len(node.targets), 1, where)
            elif isinstance(node, ast.Try):
                self.assertEqual(node.finalbody, [], where)
                self.assertTrue(all(handler.type is not None for handler in node.handlers), where)
            elif isinstance(node, ast.ListComp):
                self.assertEqual(len(node.generators), 1, where)
                self.assertLessEqual(len(node.generators[0].ifs), 1, where)
            else:
                self.assertEqual(node.orelse, [], where)

    def test_the_top_of_a_module(self):
        for name, tree in TREES.items():
            self.assertIsNotNone(ast.get_docstring(tree), name)
            for node in tree.body[1:]:
                self.assertIsInstance(node, (ast.ImportFrom, ast.FunctionDef, ast.ClassDef, ast.Assign), name)

    def test_imports(self):
        for name, node in nodes(ast.ImportFrom):
            package, dot, module = node.module.partition(".")
            self.assertEqual((package, node.level), ("stemshelf", 0), name)
            for alias in node.names:
                self.assertIsNone(alias.asname, name)
                self.assertIn(alias.name, bound_at_top(TREES[module]), name)
                self.assertGreater(TEXTS[name].count(alias.name), 1, f"{name}: {alias.name} is not used")

    def test_no_two_files_draw_from_one_another(self):
        drawn = {name: set() for name in TREES}
        for name, node in nodes(ast.ImportFrom):
            drawn[name].add(node.module.partition(".")[2])
        while drawn:
            free = [name for name in drawn if not drawn[name] & set(drawn)]
            self.assertNotEqual(free, [], f"a round of imports among {sorted(drawn)}")
            for name in free:
                drawn.pop(name)

    def test_functions(self):
        for name, node in nodes((ast.FunctionDef, ast.Lambda)):
            where = f"{name}:{node.lineno}"
            params = node.args
            self.assertEqual((params.vararg, params.kwarg, params.kwonlyargs, params.posonlyargs), (None, None, [], []))
            if isinstance(node, ast.FunctionDef):
                self.assertEqual(node.decorator_list, [], where)
                self.assertTrue(PLAIN.fullmatch(node.name) or node.name in DUNDERS, where)

    def test_names(self):
        for name, tree in TREES.items():
            top = bound_at_top(tree) | imported(tree)
            within = bound_within(tree)
            for bound in within | top:
                self.assertRegex(bound, PLAIN, name)
                self.assertNotIn(bound, UNUSED, name)
                self.assertFalse(hasattr(builtins, bound), f"{name}: {bound} is a name of Python's own")
            for node in ast.walk(tree):
                if isinstance(node, ast.Name) and isinstance(node.ctx, ast.Load):
                    self.assertIn(node.id, top | within | OWN_NAMES, f"{name}:{node.lineno}")
                if isinstance(node, ast.FunctionDef):
                    self.assertEqual(bound_within(node) & top, set(), f"{name}:{node.lineno}")

    def test_methods_and_values(self):
        self.assertEqual(methods() & stored_values(), set())
        self.assertEqual(stored_values() & NO_VALUES, set())
        known = methods() | stored_values() | METHODS
        for name, node in nodes(ast.Attribute):
            self.assertNotIn(node.attr, UNUSED, f"{name}:{node.lineno}")
            self.assertIn(node.attr, known, f"{name}:{node.lineno}")

    def test_classes(self):
        for name, node in nodes(ast.ClassDef):
            where = f"{name}:{node.lineno}"
            self.assertLessEqual(len(node.bases), 1, where)
            self.assertEqual((node.keywords, node.decorator_list), ([], []), where)
            for part in node.body:
                self.assertTrue(isinstance(part, ast.FunctionDef) or part is node.body[0] and ast.get_docstring(node))

    def test_walked_at_once_and_sets(self):
        for name, tree in TREES.items():
            above = parents(tree)
            for node in ast.walk(tree):
                where = f"{name}:{getattr(node, 'lineno', 0)}"
                if called(node) in WALKED:
                    self.assertTrue(is_walked_at_once(node, above[node]), where)
                if called(node) in ("set", "frozenset") or isinstance(node, ast.Set):
                    self.assertTrue(is_set_at_once(node, above[node]), where)

    def test_raises_make_their_error(self):
        for name, node in nodes(ast.Raise):
            self.assertIsInstance(node.exc, ast.Call, f"{name}:{node.lineno}")

    def test_values(self):
        for name, node in nodes(ast.Constant):
            where = f"{name}:{node.lineno}"
            self.assertIsInstance(node.value, (int, str, None.__class__), where)
            if isinstance(node.value, str):
                self.assertNotIn("%", node.value, where)

    def test_is_beside_none_and_truths_alone(self):
        for name, node in nodes(ast.Compare):
            for operator, other in zip(node.ops, node.comparators):
                if isinstance(operator, (ast.Is, ast.IsNot)):
                    self.assertIn(ast.unparse(other), ("None", "True", "False"), f"{name}:{node.lineno}")


if __name__ == "__main__":
    unittest.main()
