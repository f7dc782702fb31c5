"""The package's files keep to their small part of Python, as far as a reader of trees can see it."""

import ast
import builtins
import pathlib
import re
import unittest

PACKAGE = pathlib.Path(__file__).resolve().parent.parent / "cutlands"

# The rows L4, L6 and L7 by the names that Python's own reader gives to what they allow.
ALLOWED_NODES = set("""
    Module FunctionDef Lambda ClassDef arguments arg ImportFrom alias Assign AugAssign If While For Return Break
    Continue Pass Raise Try ExceptHandler Expr Constant List Tuple Dict Set Name Load Store Attribute Subscript Slice
    BinOp UnaryOp BoolOp Compare IfExp Call keyword ListComp comprehension JoinedStr FormattedValue
    Add Sub Mult FloorDiv Mod Pow BitAnd BitOr BitXor LShift RShift Invert USub UAdd Not And Or
    Eq NotEq Lt LtE Gt GtE Is IsNot In NotIn
""".split())

ALLOWED_BUILTINS = set("""
    len range enumerate zip min max sum abs sorted reversed int str bool list tuple dict set frozenset isinstance ord
    repr any all divmod Exception ValueError TypeError KeyError IndexError LookupError ZeroDivisionError
    ArithmeticError OverflowError RuntimeError NotImplementedError AttributeError StopIteration
""".split())

ALLOWED_METHODS = set("""
    append clear copy count endswith extend find get index insert isalnum isalpha isdigit islower isspace isupper
    items join keys ljust lower lstrip partition pop remove replace reverse rfind rjust rpartition rsplit rstrip
    setdefault split splitlines startswith strip update upper values zfill bit_length
""".split())

SPECIAL_METHODS = {"__init__", "__eq__", "__repr__", "__str__", "__len__"}

FORBIDDEN_NAMES = set("register mro elements open input version_info with_traceback add_note".split())

FORBIDDEN_WORDS = re.compile(
    r"\b(type|typing|typing_extensions|enum|Enum|IntEnum|StrEnum|Flag|IntFlag|Generic|Protocol|ABC|ABCMeta"
    r"|namedtuple|NamedTuple|TypedDict|TYPE_CHECKING|abstractmethod)\b|dataclass|overload|contextmanager"
)

# The rows L23 and L24: what is walked at once, and where it may stand.
WALKED_NAMES = set("zip enumerate reversed range".split())
WALKED_METHODS = set("items keys values".split())
WALKERS = set("list tuple dict sorted sum any all enumerate zip min max".split())

# The row L22: where a keyword may stand.
KEYWORDS = {
    "sorted": ("key", "reverse"), "min": ("key", "default"), "max": ("key", "default"), "sum": ("start",),
    "enumerate": ("start",), "zip": ("strict",),
}

PLAIN_NAME = re.compile(r"[A-Za-z][A-Za-z0-9_]*\Z")


def files():
    return sorted(PACKAGE.rglob("*.py"))


def tree_of(path):
    return ast.parse(path.read_text(encoding="utf-8"))


def trees():
    return [(path, tree_of(path)) for path in files()]


def nodes(kind):
    return [(path, node) for path, tree in trees() for node in ast.walk(tree) if isinstance(node, kind)]


def own_methods_and_values():
    """The names of the package's own methods, and those of its objects' values."""
    methods = set()
    values = set()
    for path, node in nodes(ast.ClassDef):
        methods.update(part.name for part in node.body if isinstance(part, ast.FunctionDef))
    for path, node in nodes(ast.Attribute):
        if isinstance(node.ctx, ast.Store):
            values.add(node.attr)
    return methods, values


def calls_with_parents():
    """Each call with the node straight around it."""
    for path, tree in trees():
        for parent in ast.walk(tree):
            for node in ast.iter_child_nodes(parent):
                if isinstance(node, ast.Call):
                    yield path, node, parent


def called_name(node):
    return node.func.id if isinstance(node, ast.Call) and isinstance(node.func, ast.Name) else None


def bound_names(tree):
    """Each name that a file binds, with the node that binds it."""
    for node in ast.walk(tree):
        if isinstance(node, (ast.FunctionDef, ast.ClassDef)):
            yield node.name, node
        elif isinstance(node, ast.arg):
            yield node.arg, node
        elif isinstance(node, ast.Name) and isinstance(node.ctx, ast.Store):
            yield node.id, node


class Language(unittest.TestCase):
    def check(self, right, path, node, why):
        self.assertTrue(right, f"{path.name}:{getattr(node, 'lineno', 0)}: {why}")

    def test_files(self):
        self.assertTrue((PACKAGE / "__init__.py").is_file())
        for path in PACKAGE.rglob("*"):
            if "__pycache__" not in path.parts and not path.is_dir():
                self.assertRegex(path.name, r"\A[a-z_][a-z0-9_]*\.py\Z")

    def test_size_and_signs(self):
        for path in files():
            text = path.read_text(encoding="utf-8")
            self.assertRegex(text, r"\A[ -~\n]*\Z", path.name)
            rows = text.split("\n")
            self.assertLessEqual(len(rows), 400, path.name)
            self.assertLessEqual(max(len(row) for row in rows), 120, path.name)
            self.assertIsNone(FORBIDDEN_WORDS.search(text), path.name)
        for path, node in nodes(ast.FunctionDef):
            self.check(node.end_lineno - node.lineno < 40, path, node, "more than 40 lines")

    def test_nodes(self):
        for path, node in nodes(ast.AST):
            name = node.__class__.__name__
            self.check(name in ALLOWED_NODES, path, node, name)

    def test_statements(self):
        for path, node in nodes(ast.Assign):
            self.check(len(node.targets) == 1, path, node, "one target")
        for path, node in nodes((ast.For, ast.While)):
            self.check(not node.orelse, path, node, "else behind a loop")
        for path, node in nodes(ast.Try):
            self.check(not node.finalbody, path, node, "finally")
        for path, node in nodes(ast.ListComp):
            right = len(node.generators) == 1 and len(node.generators[0].ifs) <= 1
            self.check(right, path, node, "one for and at most one if")
        for path, node in nodes(ast.Constant):
            self.check(isinstance(node.value, (int, str, type(None))), path, node, "value")

    def test_functions_and_classes(self):
        for path, node in nodes((ast.FunctionDef, ast.ClassDef)):
            self.check(not node.decorator_list, path, node, "decorator")
        for path, node in nodes(ast.arguments):
            plain = not (node.vararg or node.kwarg or node.kwonlyargs or node.posonlyargs)
            self.check(plain, path, node, "plain parameters")
        for path, node in nodes(ast.ClassDef):
            self.check(len(node.bases) <= 1 and not node.keywords, path, node, "one base")
            for part in node.body:
                right = isinstance(part, ast.FunctionDef) or (
                    isinstance(part, ast.Expr) and isinstance(part.value, ast.Constant))
                self.check(right, path, part, "methods alone in a class")

    def test_top_of_files(self):
        allowed = (ast.Expr, ast.ImportFrom, ast.FunctionDef, ast.ClassDef, ast.Assign)
        for path, tree in trees():
            for node in tree.body:
                self.check(isinstance(node, allowed), path, node, "at the top of a file")
            names = [node.name for node in tree.body if hasattr(node, "name")]
            names = names + [node.targets[0].id for node in tree.body if isinstance(node, ast.Assign)]
            self.assertEqual(len(names), len(set(names)), path.name)

    def test_imports(self):
        defined = {
            path.stem: {node.name for node in tree.body if isinstance(node, (ast.FunctionDef, ast.ClassDef))}
            | {node.targets[0].id for node in tree.body if isinstance(node, ast.Assign)}
            for path, tree in trees()
        }
        for path, node in nodes(ast.ImportFrom):
            self.check(node.level == 0 and node.module.startswith("cutlands."), path, node, "own modules alone")
            for name in node.names:
                right = name.name in defined[node.module.partition(".")[2]] and name.asname is None
                self.check(right, path, node, "from the file that defines it")

    def test_no_files_draw_from_one_another(self):
        drawn = {path.stem: set() for path in files()}
        for path, node in nodes(ast.ImportFrom):
            drawn[path.stem].add(node.module.partition(".")[2])
        while drawn:
            free = [name for name in drawn if not drawn[name] & set(drawn)]
            self.assertTrue(free, sorted(drawn))
            drawn = {name: drawn[name] for name in drawn if name not in free}

    def test_names(self):
        for path, tree in trees():
            taken = {node.name for node in tree.body if isinstance(node, ast.ClassDef)}
            for node in tree.body:
                if isinstance(node, ast.ImportFrom):
                    taken.update(name.name for name in node.names)
            for name, node in bound_names(tree):
                if name in SPECIAL_METHODS:
                    continue
                self.check(PLAIN_NAME.match(name) and name not in FORBIDDEN_NAMES, path, node, name)
                if not isinstance(node, (ast.FunctionDef, ast.ClassDef)):
                    self.check(name not in taken and not hasattr(builtins, name), path, node, name)
        for path, node in nodes(ast.Name):
            if hasattr(builtins, node.id):
                self.check(node.id in ALLOWED_BUILTINS, path, node, node.id)

    def test_attributes(self):
        methods, values = own_methods_and_values()
        self.assertEqual(methods & values, set())
        for path, node in nodes(ast.Attribute):
            right = node.attr in methods | values | ALLOWED_METHODS
            right = right and (PLAIN_NAME.match(node.attr) or node.attr == "__init__")
            self.check(right and node.attr not in FORBIDDEN_NAMES, path, node, node.attr)
        self.assertLessEqual({name for name in methods if name.startswith("_")}, SPECIAL_METHODS)

    def test_what_is_walked_is_walked_at_once(self):
        for path, node, parent in calls_with_parents():
            method = node.func.attr if isinstance(node.func, ast.Attribute) else None
            if called_name(node) in WALKED_NAMES or method in WALKED_METHODS:
                in_loop = isinstance(parent, (ast.For, ast.comprehension)) and parent.iter is node
                in_call = called_name(parent) in WALKERS and parent.args[0] is node
                self.check(in_loop or in_call, path, node, "walked on the spot")

    def test_sets_are_not_kept(self):
        for path, node, parent in calls_with_parents():
            if called_name(node) in ("set", "frozenset"):
                right = isinstance(parent, (ast.Compare, ast.BinOp)) or called_name(parent) in ("sorted", "len")
                self.check(right, path, node, "a set is asked on the spot")

    def test_is_stands_beside_none_true_and_false_alone(self):
        for path, node in nodes(ast.Compare):
            for sign, right_side in zip(node.ops, node.comparators):
                if isinstance(sign, (ast.Is, ast.IsNot)):
                    right = isinstance(right_side, ast.Constant) and right_side.value in (None, True, False)
                    self.check(right, path, node, "is")

    def test_numbers_and_texts(self):
        for path, node in nodes(ast.BinOp):
            if isinstance(node.op, ast.Pow):
                written = isinstance(node.right, ast.Constant) and 0 <= node.right.value <= 64
                self.check(written, path, node, "a written exponent")
        for path, node in nodes(ast.Constant):
            if isinstance(node.value, str):
                self.check("%" not in node.value, path, node, "a text")

    def test_keywords(self):
        for path, node in nodes(ast.Call):
            allowed = KEYWORDS.get(called_name(node), ())
            for keyword in node.keywords:
                self.check(keyword.arg in allowed, path, node, keyword.arg)

    def test_what_a_file_keeps_is_only_read(self):
        # A list or dict of a file's top is asked by an index or by in alone.
        for path, tree in trees():
            kept = [node.targets[0].id for node in tree.body if isinstance(node, ast.Assign)
                    and isinstance(node.value, (ast.List, ast.Dict))]
            for parent in ast.walk(tree):
                for node in ast.iter_child_nodes(parent):
                    if isinstance(node, ast.Name) and isinstance(node.ctx, ast.Load) and node.id in kept:
                        index = isinstance(parent, ast.Subscript) and isinstance(parent.ctx, ast.Load)
                        asked = isinstance(parent, ast.Compare) and isinstance(parent.ops[0], (ast.In, ast.NotIn))
                        self.check(index or asked, path, node, node.id)

    def test_errors_taken_are_named(self):
        for path, node in nodes(ast.ExceptHandler):
            self.check(node.type is not None, path, node, "except of named error classes")
            names = [part.id for part in ast.walk(node.type) if isinstance(part, ast.Name)]
            self.check(not set(names) & {"Exception", "TypeError"}, path, node, "except")


if __name__ == "__main__":
    unittest.main()
