"""The package keeps to the plain part of Python: those rules that a look at the code can settle."""

import ast
import builtins
import pathlib
import re
import unittest

PACKAGE = pathlib.Path(__file__).resolve().parent.parent / "clashbook"
FILES = sorted(PACKAGE.rglob("*.py"))
NO_NODES = (
    ast.With, ast.AsyncWith, ast.Match, ast.Delete, ast.Global, ast.Nonlocal, ast.Assert, ast.Yield, ast.YieldFrom,
    ast.AsyncFunctionDef, ast.AsyncFor, ast.Await, ast.SetComp, ast.DictComp, ast.GeneratorExp, ast.NamedExpr,
    ast.Starred, ast.Import, ast.Div, ast.MatMult,
)
BUILT_IN = set(
    "len range enumerate zip min max sum abs sorted reversed int str bool list tuple dict set frozenset isinstance ord"
    " repr any all divmod Exception ValueError KeyError IndexError LookupError ZeroDivisionError ArithmeticError"
    " OverflowError RuntimeError NotImplementedError AttributeError StopIteration TypeError".split()
)
IN_ANNOTATIONS = {"object", "float", "bytes"}
TWO_UNDERSCORES = {"__init__", "__eq__", "__repr__", "__str__", "__len__", "__all__", "__version__"}
METHODS = set(
    "append clear copy count endswith extend find get index insert isalnum isalpha isdigit islower isspace isupper items"
    " join keys ljust lower lstrip partition pop remove replace reverse rfind rjust rpartition rsplit rstrip setdefault"
    " split splitlines startswith strip update upper values zfill bit_length __init__ __name__".split()
)
NO_WORDS = (
    r"\b(type|typing|typing_extensions|enum|Enum|IntEnum|StrEnum|Flag|IntFlag|Generic|Protocol|ABC|ABCMeta|namedtuple"
    r"|NamedTuple|TypedDict|TYPE_CHECKING|abstractmethod)\b|dataclass|overload|contextmanager"
)
NO_NAMES = set("register mro elements open input version_info with_traceback add_note format format_map".split())
NOT_AS_NAMES = set(
    "attrgetter breakpoint builtins compile copyright credits delattr dir eval exec exit gc getattr globals hasattr help id"
    " importlib license locals methodcaller os quit setattr super vars sys hash next map filter iter chr".split()
)
WALKED_AT_ONCE = set("zip enumerate reversed range items keys values".split())
WALKERS = set("list tuple dict sorted sum any all enumerate zip".split())


def called(node):
    """The name by which a call calls, or None for all else."""
    if not isinstance(node, ast.Call):
        return None
    return node.func.attr if isinstance(node.func, ast.Attribute) else getattr(node.func, "id", None)


def is_walked(node, above):
    """Whether a call stands where its things are walked on the spot."""
    if isinstance(above, (ast.For, ast.comprehension)):
        return node == above.iter
    if called(above) in WALKERS:
        return node == above.args[0]
    if called(above) in ("min", "max"):
        return above.args == [node]
    return called(above) == "join" and isinstance(above.func.value, ast.Constant)


def is_set_in_place(above):
    """Whether a set that stands within this is only looked at there."""
    if isinstance(above, ast.Compare):
        return isinstance(above.ops[0], (ast.In, ast.NotIn, ast.Eq, ast.NotEq))
    return called(above) in ("sorted", "len") and above.keywords == []


def bound_names(tree):
    """Every name that a file binds anywhere."""
    names = set()
    for node in ast.walk(tree):
        if isinstance(node, (ast.FunctionDef, ast.ClassDef)):
            names.add(node.name)
        elif isinstance(node, ast.arg):
            names.add(node.arg)
        elif isinstance(node, ast.Name) and isinstance(node.ctx, ast.Store):
            names.add(node.id)
        elif isinstance(node, ast.ImportFrom):
            names.update(alias.asname or alias.name for alias in node.names)
        elif isinstance(node, ast.ExceptHandler) and node.name:
            names.add(node.name)
    return names


def local_names(tree):
    """Every parameter and every name that is bound within a def."""
    names = set()
    for node in ast.walk(tree):
        if isinstance(node, ast.FunctionDef):
            names |= bound_names(ast.Module(body=node.body, type_ignores=[]))
            names |= {each.arg for each in node.args.args}
    return names


def own_methods(trees):
    classes = [node for tree in trees for node in ast.walk(tree) if isinstance(node, ast.ClassDef)]
    return {child.name for node in classes for child in node.body if isinstance(child, ast.FunctionDef)}


def own_values(trees):
    nodes = [node for tree in trees for node in ast.walk(tree) if isinstance(node, ast.Attribute)]
    return {node.attr for node in nodes if isinstance(node.ctx, ast.Store)}


class Language(unittest.TestCase):
    def setUp(self):
        self.texts = {path.name: path.read_text(encoding="utf-8") for path in FILES}
        self.trees = {name: ast.parse(text) for name, text in self.texts.items()}

    def test_there_are_files(self):
        self.assertIn("__init__.py", self.texts)

    def test_signs_and_sizes(self):
        for name, text in self.texts.items():
            self.assertIsNone(re.search(r"[^ -~\n]", text), name)
            rows = text.splitlines()
            self.assertLessEqual(len(rows), 400, name)
            self.assertLessEqual(max(map(len, rows), default=0), 120, name)

    def test_words(self):
        for name, text in self.texts.items():
            self.assertIsNone(re.search(NO_WORDS, text), name)

    def test_functions(self):
        for name, tree in self.trees.items():
            for node in ast.walk(tree):
                if isinstance(node, ast.FunctionDef):
                    place = (name, node.name)
                    self.assertLessEqual(node.end_lineno - node.lineno + 1, 40, place)
                    self.assertEqual(node.decorator_list, [], place)
                    self.assertIsNone(node.args.vararg or node.args.kwarg, place)
                    self.assertEqual(node.args.kwonlyargs + node.args.posonlyargs, [], place)

    def test_statements_and_expressions(self):
        for name, tree in self.trees.items():
            for node in ast.walk(tree):
                place = (name, getattr(node, "lineno", 0), node)
                self.assertNotIsInstance(node, NO_NODES, place)
                if isinstance(node, (ast.For, ast.While)):
                    self.assertEqual(node.orelse, [], place)
                if isinstance(node, ast.Assign):
                    self.assertEqual(len(node.targets), 1, place)
                if isinstance(node, ast.ListComp):
                    self.assertEqual(len(node.generators), 1, place)
                    self.assertLessEqual(len(node.generators[0].ifs), 1, place)
                if isinstance(node, ast.Try):
                    self.assertEqual(node.finalbody, [], place)
                if isinstance(node, ast.Compare) and {ast.Is, ast.IsNot} & {op.__class__ for op in node.ops}:
                    self.assertIsInstance(node.comparators[-1], ast.Constant, place)
                    self.assertIn(node.comparators[-1].value, (None, True, False), place)
                if isinstance(node, ast.Constant):
                    self.assertNotIsInstance(node.value, (float, bytes, complex), place)

    def test_walks_and_sets(self):
        for name, tree in self.trees.items():
            for above in ast.walk(tree):
                for node in ast.iter_child_nodes(above):
                    place = (name, getattr(node, "lineno", 0))
                    if called(node) in WALKED_AT_ONCE:
                        self.assertTrue(is_walked(node, above), place)
                    if called(node) in ("set", "frozenset"):
                        self.assertTrue(is_set_in_place(above), place)
                    self.assertNotIsInstance(node, ast.Set, place)

    def test_each_name_once_at_the_top(self):
        for name, tree in self.trees.items():
            bound = []
            for node in tree.body:
                if isinstance(node, (ast.FunctionDef, ast.ClassDef)):
                    bound.append(node.name)
                elif isinstance(node, ast.Assign):
                    bound.append(node.targets[0].id)
                elif isinstance(node, ast.ImportFrom):
                    bound.extend(alias.name for alias in node.names)
            self.assertEqual(sorted(bound), sorted(set(bound)), name)

    def test_no_two_files_draw_from_one_another(self):
        draws = {}
        for name, tree in self.trees.items():
            nodes = [node for node in ast.walk(tree) if isinstance(node, ast.ImportFrom)]
            draws["clashbook." + name[:-3]] = {node.module for node in nodes}
        settled = set()
        while len(settled) < len(draws):
            ready = {name for name, drawn in draws.items() if drawn & set(draws) <= settled}
            self.assertGreater(len(ready), len(settled), draws)
            settled = ready

    def test_imports(self):
        for name, tree in self.trees.items():
            for node in ast.walk(tree):
                if isinstance(node, ast.ImportFrom) and node.module != "__future__":
                    self.assertEqual(node.level, 0, name)
                    self.assertTrue((node.module + ".").startswith("clashbook."), (name, node.module))
                    self.assertIn(node, tree.body, name)

    def test_names(self):
        for name, tree in self.trees.items():
            known = bound_names(tree) | BUILT_IN | IN_ANNOTATIONS
            for bound in bound_names(tree):
                self.assertTrue(bound in TWO_UNDERSCORES or not bound.startswith("_"), (name, bound))
                self.assertNotIn(bound, NO_NAMES | NOT_AS_NAMES | BUILT_IN, name)
            for node in ast.walk(tree):
                if isinstance(node, ast.Name):
                    self.assertIn(node.id, known, (name, node.lineno))

    def test_locals_are_named_apart(self):
        for name, tree in self.trees.items():
            apart = {node.name for node in tree.body if isinstance(node, ast.ClassDef)} | set(dir(builtins))
            for node in tree.body:
                if isinstance(node, ast.ImportFrom):
                    apart |= {alias.name for alias in node.names}
            self.assertEqual(local_names(tree) & apart, set(), name)

    def test_methods(self):
        methods = own_methods(self.trees.values())
        values = own_values(self.trees.values())
        self.assertEqual(methods & values, set())
        known = METHODS | methods | values
        for name, tree in self.trees.items():
            for node in ast.walk(tree):
                if isinstance(node, ast.Attribute):
                    self.assertIn(node.attr, known - NO_NAMES, (name, node.lineno))


if __name__ == "__main__":
    unittest.main()
