"""The form of the package's own files: those rules of the language that can be seen in a file alone."""

import ast
import builtins
import pathlib
import re
import unittest

PACKAGE = pathlib.Path(__file__).resolve().parent.parent / "linegrow"
FILES = sorted(PACKAGE.rglob("*.py"))

OWN_NAMES = set(
    "len range enumerate zip min max sum abs sorted reversed int str bool list tuple dict set frozenset isinstance"
    " ord repr any all divmod Exception ValueError TypeError KeyError IndexError LookupError ZeroDivisionError"
    " ArithmeticError OverflowError RuntimeError NotImplementedError AttributeError StopIteration".split()
)
METHODS = set(
    "append clear copy count endswith extend find get index insert isalnum isalpha isdigit islower isspace isupper"
    " items join keys ljust lower lstrip partition pop remove replace reverse rfind rjust rpartition rsplit rstrip"
    " setdefault split splitlines startswith strip update upper values zfill bit_length".split()
)
BARRED_METHODS = {
    name for kind in (str, int, list, tuple, dict, set, bytes) for name in dir(kind) if not name.startswith("__")
} - METHODS - {"add", "discard", "title"}
BARRED_NAMES = set(
    "attrgetter breakpoint builtins compile copyright credits delattr dir eval exec exit gc getattr globals hasattr"
    " help id importlib license locals methodcaller os quit setattr super vars sys register mro elements open input"
    " version_info with_traceback add_note chr print __name__".split()
)
BARRED_WORDS = re.compile(
    r"\b(type|typing|typing_extensions|enum|Enum|IntEnum|StrEnum|Flag|IntFlag|Generic|Protocol|ABC|ABCMeta"
    r"|namedtuple|NamedTuple|TypedDict|TYPE_CHECKING|abstractmethod)\b|dataclass|overload|contextmanager"
)
BARRED_NODES = (
    ast.With, ast.Match, ast.Delete, ast.Global, ast.Nonlocal, ast.Assert, ast.Yield, ast.YieldFrom, ast.Await,
    ast.AsyncFunctionDef, ast.AsyncFor, ast.AsyncWith, ast.SetComp, ast.DictComp, ast.GeneratorExp, ast.NamedExpr,
    ast.Starred, ast.Div, ast.Import, ast.AnnAssign,
)
BARRED_VALUES = set(
    "items keys values pop update append clear extend insert remove reverse setdefault sort args encode format".split()
)
WALKED = {"zip", "enumerate", "reversed", "range", "items", "keys", "values"}
WALKERS = {"list", "tuple", "dict", "sorted", "sum", "any", "all", "enumerate", "zip"}
METHODS_WITH_UNDERSCORES = {"__init__", "__eq__", "__repr__", "__str__", "__len__"}


def tops(tree):
    """The names that a file binds at its top, but for its imports."""
    for node in tree.body:
        if isinstance(node, (ast.FunctionDef, ast.ClassDef)):
            yield node.name
        if isinstance(node, ast.Assign):
            yield node.targets[0].id


def imports(tree):
    return [node for node in ast.walk(tree) if isinstance(node, ast.ImportFrom)]


def called_name(node):
    """What a call calls: the name, or the method's."""
    return getattr(node.func, "id", None) or getattr(node.func, "attr", None)


def walked_at_once(node, parent):
    if isinstance(parent, (ast.For, ast.comprehension)):
        return parent.iter is node
    if not isinstance(parent, ast.Call) or node not in parent.args:
        return False
    if called_name(parent) in {"min", "max"}:
        return len(parent.args) == 1
    if called_name(parent) == "join":
        return isinstance(parent.func.value, ast.Constant)
    return called_name(parent) in WALKERS and parent.args[0] is node


class TestForm(unittest.TestCase):
    def setUp(self):
        self.texts = {path: path.read_text(encoding="utf-8") for path in FILES}
        self.trees = {path: ast.parse(text) for path, text in self.texts.items()}

    def each_node(self):
        for path, tree in self.trees.items():
            for node in ast.walk(tree):
                yield f"{path.name}:{getattr(node, 'lineno', 0)}", node

    def test_nothing_but_plain_files_lies_there(self):
        self.assertIn(PACKAGE / "__init__.py", FILES)
        for path in PACKAGE.rglob("*"):
            if "__pycache__" not in path.parts:
                self.assertRegex(path.name, r"\A[a-z0-9_]+\.py\Z")
                self.assertFalse(path.stem in dir(builtins) or path.stem.startswith("test"), path)

    def test_signs_and_sizes(self):
        for path, text in self.texts.items():
            lines = text.split("\n")
            self.assertLessEqual(len(lines) - 1, 400, path)
            for number, line in enumerate(lines, 1):
                self.assertRegex(line, r"\A[ -~]{0,120}\Z", f"{path}:{number}")
                self.assertIsNone(BARRED_WORDS.search(line), f"{path}:{number}")
        for spot, node in self.each_node():
            if isinstance(node, ast.FunctionDef):
                self.assertLessEqual(node.end_lineno - node.lineno + 1, 40, spot)

    def test_the_top_of_a_file(self):
        for path, tree in self.trees.items():
            self.assertIsNotNone(ast.get_docstring(tree), path)
            for node in tree.body[1:]:
                self.assertIsInstance(node, (ast.ImportFrom, ast.FunctionDef, ast.ClassDef, ast.Assign), path)
            names = list(tops(tree)) + [alias.name for node in imports(tree) for alias in node.names]
            self.assertEqual(len(names), len(set(names)), path)

    def test_imports(self):
        drawn = {}
        for path, tree in self.trees.items():
            drawn[path] = []
            for node in imports(tree):
                self.assertIn(node, tree.body)
                self.assertEqual(node.level, 0)
                source = PACKAGE.parent / (node.module.replace(".", "/") + ".py")
                self.assertIn(source, FILES)
                self.assertTrue(all(alias.asname is None for alias in node.names))
                self.assertLessEqual({alias.name for alias in node.names}, set(tops(self.trees[source])))
                drawn[path].append(source)
        while drawn:
            ready = [path for path, sources in drawn.items() if not any(source in drawn for source in sources)]
            self.assertTrue(ready, "files draw from one another")
            for path in ready:
                del drawn[path]

    def test_statements_and_expressions(self):
        for spot, node in self.each_node():
            self.assertNotIsInstance(node, BARRED_NODES, spot)
            if isinstance(node, ast.Assign):
                self.assertEqual(len(node.targets), 1, spot)
                self.assertNotIsInstance(node.targets[0], (ast.Tuple, ast.List), spot)
            if isinstance(node, (ast.For, ast.While)):
                self.assertEqual(node.orelse, [], spot)
            if isinstance(node, ast.Expr) and node not in [tree.body[0] for tree in self.trees.values()]:
                self.assertIsInstance(node.value, ast.Call, spot)
            if isinstance(node, ast.Try):
                self.assertEqual(node.finalbody, [], spot)
            if isinstance(node, ast.Constant):
                self.assertNotIsInstance(node.value, (float, bytes, complex), spot)
                self.assertNotIn("\N{PERCENT SIGN}", str(node.value), spot)
            if isinstance(node, ast.ListComp):
                self.assertTrue(len(node.generators) == 1 and len(node.generators[0].ifs) < 2, spot)
            if isinstance(node, ast.Compare) and any(isinstance(op, (ast.Is, ast.IsNot)) for op in node.ops):
                self.assertTrue(all(isinstance(side, ast.Constant) for side in node.comparators), spot)

    def test_what_is_walked_and_sets_are_not_kept(self):
        for path, tree in self.trees.items():
            for parent in ast.walk(tree):
                for node in ast.iter_child_nodes(parent):
                    spot = f"{path.name}:{getattr(node, 'lineno', 0)}"
                    if isinstance(node, ast.Call) and called_name(node) in WALKED:
                        self.assertTrue(walked_at_once(node, parent), spot)
                    if isinstance(node, ast.Set) or isinstance(node, ast.Call) and called_name(node) == "set":
                        within = isinstance(parent, ast.Call) and called_name(parent) in {"sorted", "len"}
                        self.assertTrue(within or isinstance(parent, (ast.Compare, ast.BinOp)), spot)

    def test_powers_have_a_written_exponent(self):
        for spot, node in self.each_node():
            if isinstance(node, ast.BinOp) and isinstance(node.op, ast.Pow):
                self.assertIsInstance(node.right, ast.Constant, spot)
                self.assertIn(node.right.value, range(65), spot)

    def test_names_at_the_top_have_plain_values(self):
        plain = (ast.Constant, ast.List, ast.Tuple, ast.Dict, ast.Load, ast.Name, ast.USub, ast.UnaryOp)
        for path, tree in self.trees.items():
            for node in tree.body:
                if isinstance(node, ast.Assign):
                    for part in ast.walk(node.value):
                        self.assertIsInstance(part, plain, f"{path.name}:{node.lineno}")

    def test_defs(self):
        for spot, node in self.each_node():
            if isinstance(node, (ast.FunctionDef, ast.ClassDef)):
                self.assertEqual(node.decorator_list, [], spot)
            if isinstance(node, ast.ClassDef):
                self.assertLessEqual(len(node.bases), 1, spot)
                for part in node.body:
                    self.assertIsInstance(part, (ast.FunctionDef, ast.Pass), spot)
            if isinstance(node, ast.arguments):
                self.assertFalse(node.vararg or node.kwarg or node.kwonlyargs or node.posonlyargs, spot)

    def test_names(self):
        for path, tree in self.trees.items():
            taken = {alias.name for node in imports(tree) for alias in node.names}
            for node in ast.walk(tree):
                spot = f"{path.name}:{getattr(node, 'lineno', 0)}"
                if isinstance(node, ast.Name):
                    self.assertNotIn(node.id, BARRED_NAMES, spot)
                    if isinstance(node.ctx, ast.Store):
                        self.bound(node.id, taken, spot)
                    elif node.id in dir(builtins):
                        self.assertIn(node.id, OWN_NAMES, spot)
                if isinstance(node, ast.arg):
                    self.bound(node.arg, taken, spot)
                if isinstance(node, (ast.FunctionDef, ast.ClassDef)) and node.name not in METHODS_WITH_UNDERSCORES:
                    self.bound(node.name, taken, spot)
                if isinstance(node, ast.Attribute) and node.attr not in METHODS_WITH_UNDERSCORES:
                    self.assertNotIn(node.attr, BARRED_METHODS, spot)
                    self.assertFalse(node.attr.startswith("_"), spot)

    def test_no_name_is_a_method_and_a_value(self):
        methods = set()
        values = set()
        for spot, node in self.each_node():
            if isinstance(node, ast.ClassDef):
                methods |= {part.name for part in node.body if isinstance(part, ast.FunctionDef)}
            if isinstance(node, ast.Attribute) and isinstance(node.ctx, ast.Store):
                values.add(node.attr)
        self.assertEqual(methods & values, set())
        self.assertEqual(values & BARRED_VALUES, set())

    def bound(self, name, taken, spot):
        self.assertFalse(name.startswith("_"), spot)
        self.assertNotIn(name, taken, spot)
        self.assertNotIn(name, dir(builtins), spot)


if __name__ == "__main__":
    unittest.main()
