"""The form of the package's files: those rules of the language that a look at each file by itself can show."""

import ast
import builtins
import pathlib
import re
import unittest

PACKAGE = pathlib.Path(__file__).resolve().parent.parent / "forkplan"

ALLOWED_NODES = set("""
Module FunctionDef ClassDef arguments arg Lambda Return Assign AugAssign For While If Raise Try ExceptHandler
ImportFrom alias Expr Pass Break Continue BoolOp And Or BinOp Add Sub Mult FloorDiv Mod Pow LShift RShift BitOr
BitXor BitAnd UnaryOp Not USub Invert IfExp Dict Set ListComp comprehension Compare Eq NotEq Lt LtE Gt GtE Is IsNot
In NotIn Call keyword JoinedStr FormattedValue Constant Attribute Subscript Name List Tuple Slice Load Store
""".split())
ALLOWED_BUILTINS = set("""
len range enumerate zip min max sum abs sorted reversed int str bool list tuple dict set frozenset isinstance ord repr
any all divmod Exception ValueError TypeError KeyError IndexError LookupError ZeroDivisionError ArithmeticError
OverflowError RuntimeError NotImplementedError AttributeError StopIteration
""".split())
BANNED_WORDS = re.compile(
    r"\b(type|typing|typing_extensions|enum|Enum|IntEnum|StrEnum|Flag|IntFlag|Generic|Protocol|ABC|ABCMeta|namedtuple"
    r"|NamedTuple|TypedDict|TYPE_CHECKING|abstractmethod)\b|dataclass|overload|contextmanager")
# Methods of Python's own values; the package's own ones come on top.
ALLOWED_METHODS = set("""
append clear copy count endswith extend find get index insert isalnum isalpha isdigit islower isspace isupper items join
keys ljust lower lstrip partition pop remove replace reverse rfind rjust rpartition rsplit rstrip setdefault split
splitlines startswith strip update upper values zfill bit_length
""".split())
BANNED_NAMES = set("""
register mro elements open input version_info with_traceback add_note attrgetter breakpoint builtins compile copyright
credits delattr dir eval exec exit gc getattr globals hasattr help id importlib license locals methodcaller os quit
setattr super type vars sys format format_map
""".split())
# What is walked on the spot: behind an "in", or as the first thing in one of these.
WALKED = ("zip", "enumerate", "reversed", "range")
WALKED_METHODS = ("items", "keys", "values")
WALKERS = ("list", "tuple", "dict", "sorted", "sum", "any", "all", "enumerate", "zip", "min", "max")
CHANGING = ("append", "clear", "extend", "insert", "pop", "remove", "reverse", "setdefault", "update")
KEYWORDS = {"sorted": ("key", "reverse"), "min": ("key", "default"), "max": ("key", "default"), "sum": ("start",),
            "enumerate": ("start",), "zip": ("strict",)}
OWN_VALUES_OF_PYTHON = {name for kind in (str, int, list, tuple, dict, set, bytes) for name in dir(kind)}
TOP_NODES = (ast.ImportFrom, ast.FunctionDef, ast.ClassDef, ast.Assign)


def files():
    return sorted(path for path in PACKAGE.rglob("*") if path.is_file() and path.suffix != ".pyc")


def trees():
    return [(path.name, ast.parse(path.read_text(encoding="ascii"))) for path in files()]


def nodes():
    return [(f"{name}:{getattr(node, 'lineno', 0)}", node) for name, tree in trees() for node in ast.walk(tree)]


def bound_names(node):
    """The names that a node binds or gives a value to."""
    if isinstance(node, (ast.FunctionDef, ast.ClassDef)):
        return [node.name]
    if isinstance(node, ast.arg):
        return [node.arg]
    if isinstance(node, ast.Name) and isinstance(node.ctx, ast.Store):
        return [node.id]
    return []


def is_docstring(node):
    return isinstance(node, ast.Expr) and isinstance(node.value, ast.Constant) and isinstance(node.value.value, str)


def called(node):
    """The name by which a call calls."""
    return node.func.attr if isinstance(node.func, ast.Attribute) else getattr(node.func, "id", None)


def id_of(node):
    """Where a node stands, by which it is known again in another reading of the same file."""
    return (ast.dump(node), node.lineno, node.col_offset) if hasattr(node, "lineno") else None


class Form(unittest.TestCase):
    def test_files(self):
        self.assertIn(PACKAGE / "__init__.py", files())
        for path in files():
            self.assertRegex(path.name, r"^(__init__|[a-z][a-z0-9_]*)\.py$")
            self.assertNotIn(path.stem, dir(builtins))

    def test_sizes_and_signs(self):
        for path in files():
            text = path.read_text(encoding="ascii")
            rows = text.split("\n")
            self.assertRegex(text, r"\A[ -~\n]*\Z", path.name)
            self.assertLessEqual(len(rows), 400, path.name)
            self.assertLessEqual(max(len(row) for row in rows), 120, path.name)
            self.assertIsNone(BANNED_WORDS.search(text), path.name)
        for place, node in nodes():
            if isinstance(node, ast.FunctionDef):
                self.assertLessEqual(node.end_lineno - node.lineno + 1, 40, place)

    def test_statements_and_expressions(self):
        for place, node in nodes():
            self.assertIn(type(node).__name__, ALLOWED_NODES, place)
            if isinstance(node, (ast.For, ast.While)):
                self.assertEqual(node.orelse, [], place)
            if isinstance(node, ast.Assign):
                self.assertEqual(len(node.targets), 1, place)
            if isinstance(node, ast.Expr):
                self.assertTrue(isinstance(node.value, ast.Call) or is_docstring(node), place)
            if isinstance(node, ast.ListComp):
                self.assertEqual(len(node.generators), 1, place)
                self.assertLessEqual(len(node.generators[0].ifs), 1, place)
            if isinstance(node, ast.Constant):
                self.assertIsInstance(node.value, (int, str, type(None)), place)
            if isinstance(node, ast.Compare) and any(isinstance(sign, (ast.Is, ast.IsNot)) for sign in node.ops):
                self.assertTrue(any(isinstance(side, ast.Constant) for side in [node.left, *node.comparators]), place)

    def test_top_of_files(self):
        for name, tree in trees():
            self.assertTrue(is_docstring(tree.body[0]), name)
            for node in tree.body[1:]:
                self.assertIsInstance(node, TOP_NODES, name)
            bound = [name for node in tree.body for sub in getattr(node, "targets", [node]) for name in bound_names(sub)]
            self.assertEqual(len(bound), len(set(bound)), name)

    def test_imports(self):
        drawn = {}
        defined = {}
        for path in files():
            tree = ast.parse(path.read_text(encoding="ascii"))
            defined["forkplan." + path.stem] = [
                name for node in tree.body for sub in getattr(node, "targets", [node]) for name in bound_names(sub)]
            drawn["forkplan." + path.stem] = [node for node in ast.walk(tree) if isinstance(node, ast.ImportFrom)]
        self.assertEqual(drawn["forkplan.__init__"], [])
        done = []
        while len(done) < len(drawn):
            ready = [name for name in drawn if name not in done and all(node.module in done for node in drawn[name])]
            self.assertNotEqual(ready, [], "files draw from one another")
            done += ready
        for name, rows in drawn.items():
            for node in rows:
                self.assertEqual(node.level, 0, name)
                for alias in node.names:
                    self.assertIn(alias.name, defined[node.module], name)

    def test_names(self):
        for place, node in nodes():
            for name in bound_names(node):
                self.assertRegex(name, r"^([A-Za-z][A-Za-z0-9_]*|__(init|eq|repr|str|len)__)$", place)
                self.assertNotIn(name, dir(builtins), place)
            if isinstance(node, ast.Name) and isinstance(node.ctx, ast.Load) and node.id in dir(builtins):
                self.assertIn(node.id, ALLOWED_BUILTINS, place)
            if isinstance(node, ast.FunctionDef):
                self.assertEqual(node.decorator_list, [], place)
                self.assertFalse(node.args.vararg or node.args.kwarg or node.args.kwonlyargs, place)

    def test_names_that_are_not_used(self):
        for place, node in nodes():
            used = bound_names(node) + [getattr(node, "attr", ""), node.id if isinstance(node, ast.Name) else ""]
            self.assertEqual(BANNED_NAMES & set(used), set(), place)

    def test_locals_are_not_called_like_imports_or_classes(self):
        for name, tree in trees():
            top = {alias.name for node in tree.body if isinstance(node, ast.ImportFrom) for alias in node.names}
            top |= {node.name for node in tree.body if isinstance(node, ast.ClassDef)}
            for function in ast.walk(tree):
                if isinstance(function, ast.FunctionDef):
                    inner = {bound for node in ast.walk(function) for bound in bound_names(node)}
                    self.assertEqual(inner & top, set(), f"{name}:{function.lineno}")

    def test_methods_and_values_of_objects(self):
        methods = {node.name for _, one in nodes() if isinstance(one, ast.ClassDef) for node in one.body
                   if isinstance(node, ast.FunctionDef)}
        values = {node.attr for _, node in nodes() if isinstance(node, ast.Attribute) and isinstance(node.ctx, ast.Store)}
        self.assertEqual(methods & values, set())
        self.assertEqual((methods - {"__init__"} | values) & OWN_VALUES_OF_PYTHON, set())
        for place, node in nodes():
            if isinstance(node, ast.Call) and isinstance(node.func, ast.Attribute):
                self.assertIn(node.func.attr, ALLOWED_METHODS | methods, place)

    def test_walked_on_the_spot(self):
        walked_at = set()
        for _, node in nodes():
            if isinstance(node, (ast.For, ast.comprehension)):
                walked_at.add(id_of(node.iter))
            if isinstance(node, ast.Call) and isinstance(node.func, ast.Name) and node.func.id in WALKERS:
                walked_at.add(id_of(node.args[0]))
        for place, node in nodes():
            if isinstance(node, ast.Call) and called(node) in WALKED + WALKED_METHODS:
                self.assertIn(id_of(node), walked_at, place)

    def test_what_a_loop_walks_is_not_changed_in_it(self):
        for place, loop in nodes():
            if isinstance(loop, ast.For):
                walked = {ast.unparse(part) for part in ast.walk(loop.iter) if isinstance(part, (ast.Name, ast.Attribute))}
                for node in [sub for row in loop.body for sub in ast.walk(row)]:
                    changed = None
                    if isinstance(node, ast.Call) and called(node) in CHANGING and isinstance(node.func, ast.Attribute):
                        changed = node.func.value
                    if isinstance(node, ast.Subscript) and isinstance(node.ctx, ast.Store):
                        changed = node.value
                    if changed is not None:
                        self.assertNotIn(ast.unparse(changed), walked, place)

    def test_sets_are_neither_kept_nor_walked(self):
        fine = set()
        for _, node in nodes():
            if isinstance(node, ast.Call) and called(node) in ("sorted", "len") and not node.keywords:
                fine |= {id_of(part) for part in ast.walk(node.args[0])}
            if isinstance(node, ast.Compare):
                fine |= {id_of(part) for side in [node.left, *node.comparators] for part in ast.walk(side)}
        for place, node in nodes():
            if isinstance(node, ast.Set) or isinstance(node, ast.Call) and called(node) in ("set", "frozenset"):
                self.assertIn(id_of(node), fine, place)

    def test_keywords_and_powers_and_handlers(self):
        for place, node in nodes():
            if isinstance(node, ast.Call):
                for keyword in node.keywords:
                    self.assertIn(keyword.arg, KEYWORDS.get(called(node), ()), place)
            if isinstance(node, ast.BinOp) and isinstance(node.op, ast.Pow):
                self.assertIsInstance(node.right, ast.Constant, place)
            if isinstance(node, ast.ExceptHandler):
                self.assertIsInstance(node.type, ast.Name, place)
                self.assertNotIn(node.type.id, ("Exception", "TypeError"), place)
            if isinstance(node, ast.Constant) and isinstance(node.value, str):
                self.assertNotIn("%", node.value, place)


if __name__ == "__main__":
    unittest.main()
