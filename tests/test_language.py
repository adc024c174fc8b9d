"""The package keeps to the small part of Python in which it is written."""

import ast
import builtins
import functools
import pathlib
import re
import unittest

PACKAGE = pathlib.Path(__file__).resolve().parent.parent / "firetogether"
OWN_NAMES = set(
    "len range enumerate zip min max sum abs sorted reversed int str bool bytes list tuple dict set frozenset"
    " isinstance ord repr any all divmod Exception ValueError TypeError KeyError IndexError LookupError"
    " ZeroDivisionError ArithmeticError OverflowError RuntimeError NotImplementedError AttributeError StopIteration"
    .split())
METHODS = set(
    "append clear copy count endswith extend find get index insert isalnum isalpha isdigit islower isspace isupper"
    " items join keys ljust lower lstrip partition pop remove replace reverse rfind rjust rpartition rsplit rstrip"
    " setdefault split splitlines startswith strip update upper values zfill bit_length add discard sort".split())
WORDS_OUT = set(
    "type typing typing_extensions enum Enum IntEnum StrEnum Flag IntFlag Generic Protocol ABC ABCMeta namedtuple"
    " NamedTuple TypedDict TYPE_CHECKING abstractmethod".split())
NAMES_OUT = set(
    "register mro elements open input version_info with_traceback add_note attrgetter breakpoint builtins compile"
    " copyright credits delattr dir eval exec exit gc getattr globals hasattr help id importlib license locals"
    " methodcaller os quit setattr super type vars sys".split())
NODES_OUT = (
    ast.With, ast.Match, ast.Global, ast.Nonlocal, ast.Yield, ast.YieldFrom, ast.AsyncFunctionDef, ast.AsyncFor,
    ast.AsyncWith, ast.Await, ast.GeneratorExp, ast.NamedExpr, ast.Div, ast.MatMult, ast.Import, ast.AnnAssign,
)
TWO_UNDERSCORES = {"__init__", "__eq__", "__repr__", "__str__", "__len__"}


@functools.lru_cache(None)
def sources():
    return {path.stem: path.read_text(encoding="utf-8") for path in sorted(PACKAGE.glob("*.py"))}


@functools.lru_cache(None)
def trees():
    return {name: ast.parse(text) for name, text in sources().items()}


def top_names(tree):
    """The names that a file's top binds, once for each time."""
    names = []
    for node in tree.body:
        if isinstance(node, (ast.FunctionDef, ast.ClassDef)):
            names.append(node.name)
        elif isinstance(node, ast.ImportFrom):
            names.extend(alias.asname or alias.name for alias in node.names)
        elif isinstance(node, ast.Assign):
            names.extend(target.id for target in node.targets)
    return names


def local_names(tree):
    """Names of parameters and of what is given within defs."""
    for node in ast.walk(tree):
        if isinstance(node, (ast.FunctionDef, ast.Lambda)):
            yield from (arg.arg for arg in node.args.args + node.args.kwonlyargs)
            for inner in ast.walk(node):
                if isinstance(inner, ast.Name) and isinstance(inner.ctx, ast.Store):
                    yield inner.id


def methods_and_values(tree):
    methods, values = set(), set()
    for node in ast.walk(tree):
        if isinstance(node, ast.ClassDef):
            methods.update(item.name for item in node.body if isinstance(item, ast.FunctionDef))
        if isinstance(node, ast.Attribute) and isinstance(node.ctx, ast.Store):
            values.add(node.attr)
    return methods, values


class Language(unittest.TestCase):
    def test_files(self):
        for path in PACKAGE.iterdir():
            if path.name != "__pycache__":
                self.assertRegex(path.name, r"\A[a-z_][a-z0-9_]*\.py\Z")
        self.assertIn("__init__", sources())
        self.assertFalse(set(sources()) & (set(dir(builtins)) | WORDS_OUT))

    def test_sizes_and_signs(self):
        for name, text in sources().items():
            lines = text.split("\n")
            self.assertLessEqual(len(lines), 400, name)
            self.assertTrue(all(len(line) <= 120 for line in lines), name)
            self.assertRegex(text, r"\A[ -~\n]*\Z", name)
            for node in ast.walk(ast.parse(text)):
                if isinstance(node, ast.FunctionDef):
                    self.assertLessEqual(node.end_lineno - node.lineno + 1, 40, (name, node.name))

    def test_words_that_stand_nowhere(self):
        for name, text in sources().items():
            self.assertFalse(set(re.findall(r"\w+", text)) & WORDS_OUT, name)
            self.assertNotRegex(text, "dataclass|overload|contextmanager")

    def test_texts(self):
        for name, tree in trees().items():
            for node in ast.walk(tree):
                if isinstance(node, ast.Constant):
                    self.assertNotIsInstance(node.value, (float, complex), name)
                    if isinstance(node.value, str):
                        self.assertNotIn("%", node.value, name)

    def test_statements_and_expressions(self):
        for name, tree in trees().items():
            for node in ast.walk(tree):
                self.assertNotIsInstance(node, NODES_OUT, name)
                if isinstance(node, (ast.For, ast.While)):
                    self.assertEqual(node.orelse, [], name)
                if isinstance(node, ast.Compare):
                    for sign, side in zip(node.ops, node.comparators):
                        if isinstance(sign, (ast.Is, ast.IsNot)):
                            self.assertTrue(isinstance(side, ast.Constant) and side.value in (None, True, False), name)
                if isinstance(node, (ast.FunctionDef, ast.Lambda)):
                    self.assertIsNone(node.args.vararg)
                    self.assertIsNone(node.args.kwarg)
                    self.assertEqual(node.args.posonlyargs, [])
                if isinstance(node, (ast.FunctionDef, ast.ClassDef)):
                    self.assertEqual(node.decorator_list, [])
                if isinstance(node, ast.BinOp) and isinstance(node.op, ast.Pow):
                    self.assertIsInstance(node.right, ast.Constant, name)

    def test_tops(self):
        for name, tree in trees().items():
            names = top_names(tree)
            self.assertEqual(len(names), len(set(names)), name)
            for at, node in enumerate(tree.body):
                docstring = at == 0 and isinstance(node, ast.Expr) and isinstance(node.value, ast.Constant)
                kinds = (ast.ImportFrom, ast.FunctionDef, ast.ClassDef, ast.Assign)
                self.assertTrue(docstring or isinstance(node, kinds), (name, node.lineno))
                if isinstance(node, ast.Assign):
                    self.assertFalse([one for one in ast.walk(node) if isinstance(one, (ast.Call, ast.Set, ast.ListComp))])

    def test_imports_are_the_packages_own_and_go_one_way(self):
        drawn = {}
        for name, tree in trees().items():
            drawn[name] = set()
            for node in ast.walk(tree):
                if isinstance(node, ast.ImportFrom):
                    self.assertIn(node, tree.body)
                    self.assertEqual(node.level, 0)
                    package, module = node.module.split(".")
                    self.assertEqual(package, "firetogether")
                    drawn[name].add(module)
                    defined = [one for one in top_names(trees()[module])]
                    imported = [alias.name for other in trees()[module].body if isinstance(other, ast.ImportFrom)
                                for alias in other.names]
                    for alias in node.names:
                        self.assertIn(alias.name, defined)
                        self.assertNotIn(alias.name, imported, (name, alias.name))
        done = set()
        while len(done) < len(drawn):
            free = {name for name in drawn if name not in done and drawn[name] <= done}
            self.assertTrue(free, "files draw from one another")
            done |= free

    def test_nothing_drawn_stands_unused(self):
        for name, tree in trees().items():
            used = {node.id for node in ast.walk(tree) if isinstance(node, ast.Name)}
            for node in tree.body:
                if isinstance(node, ast.ImportFrom):
                    self.assertTrue({alias.name for alias in node.names} <= used, name)

    def test_names(self):
        for name, tree in trees().items():
            around = set(top_names(tree))
            reserved = {one.name for one in tree.body if isinstance(one, ast.ClassDef)}
            reserved |= {alias.name for one in tree.body if isinstance(one, ast.ImportFrom) for alias in one.names}
            local = set(local_names(tree))
            self.assertFalse(local & (reserved | set(dir(builtins))), name)
            for node in ast.walk(tree):
                if isinstance(node, ast.Name) and isinstance(node.ctx, ast.Load) and node.id not in local | around:
                    self.assertIn(node.id, OWN_NAMES, name)
            for word in local | around:
                self.assertRegex(word, r"\A[A-Za-z][A-Za-z0-9_]*\Z")
                self.assertNotIn(word, NAMES_OUT)

    def test_methods_and_values(self):
        methods, values = set(), set()
        for tree in trees().values():
            own = methods_and_values(tree)
            methods |= own[0]
            values |= own[1]
        self.assertFalse(methods & values)
        for word in methods:
            self.assertTrue(word in TWO_UNDERSCORES or re.fullmatch(r"[a-z][a-z0-9_]*", word), word)
        pythons = set()
        for kind in (str, int, list, dict, set, bytes, tuple):
            pythons |= set(dir(kind))
        self.assertFalse(((methods | values) - TWO_UNDERSCORES) & pythons)
        for name, tree in trees().items():
            for node in ast.walk(tree):
                if isinstance(node, ast.Attribute):
                    self.assertIn(node.attr, METHODS | methods | values, name)

    def test_sets_are_not_walked(self):
        for name, tree in trees().items():
            for node in ast.walk(tree):
                if isinstance(node, (ast.For, ast.comprehension)):
                    walked = node.iter
                    self.assertNotIsInstance(walked, (ast.Set, ast.SetComp), name)
                    if isinstance(walked, ast.Call) and isinstance(walked.func, ast.Name):
                        self.assertNotIn(walked.func.id, ("set", "frozenset"), name)
