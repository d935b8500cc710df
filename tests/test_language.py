"""Looks at the package's own files: no clock, chance or files, and the small part of Python it keeps to.

Not every rule of LANGUAGE.md can be seen from here; those that can be seen simply are.
"""

import ast
import builtins
import re
import unittest
from pathlib import Path

PACKAGE = Path(__file__).resolve().parent.parent / "everyroad"

PYTHONS_OWN = set("""
    len range enumerate zip min max sum abs sorted reversed int str bool list tuple dict set frozenset isinstance
    ord repr any all divmod Exception ValueError TypeError KeyError IndexError LookupError ZeroDivisionError
    ArithmeticError OverflowError RuntimeError NotImplementedError AttributeError StopIteration
""".split())
METHODS = set("""
    append clear copy count endswith extend find get index insert isalnum isalpha isdigit islower isspace isupper
    items join keys ljust lower lstrip partition pop remove replace reverse rfind rjust rpartition rsplit rstrip
    setdefault split splitlines startswith strip update upper values zfill bit_length
""".split())
NODES = set("""
    Module FunctionDef ClassDef Return Assign AugAssign For While If Raise Try ExceptHandler ImportFrom alias Expr Pass
    Break Continue BoolOp BinOp UnaryOp Lambda IfExp Dict ListComp comprehension Compare Call keyword JoinedStr
    FormattedValue Constant Attribute Subscript Name List Tuple Slice arguments arg And Or Add Sub Mult FloorDiv Mod
    Pow LShift RShift BitOr BitXor BitAnd Invert Not UAdd USub Eq NotEq Lt LtE Gt GtE Is IsNot In NotIn Load Store
""".split())
WORDS = re.compile(
    r"\b(type|typing|typing_extensions|enum|Enum|IntEnum|StrEnum|Flag|IntFlag|Generic|Protocol|ABC|ABCMeta|namedtuple"
    r"|NamedTuple|TypedDict|TYPE_CHECKING|abstractmethod)\b|dataclass|overload|contextmanager"
)
UNUSED = set("""
    register mro elements open input version_info with_traceback add_note format format_map attrgetter breakpoint
    builtins compile delattr dir eval exec exit gc getattr globals hasattr help id importlib locals methodcaller os quit
    setattr super sys type vars
""".split())
DUNDERS = {"__init__", "__eq__", "__repr__", "__str__", "__len__"}
WALKERS = {"list", "tuple", "dict", "sorted", "sum", "any", "all", "enumerate", "zip", "min", "max"}


def trees():
    """Each file's name with its tree."""
    return [(path.name, ast.parse(path.read_text("ascii"))) for path in sorted(PACKAGE.glob("*.py"))]


def nodes():
    """Each node of each file, with what it stands in."""
    for name, tree in trees():
        for parent in ast.walk(tree):
            for child in ast.iter_child_nodes(parent):
                yield f"{name}:{getattr(child, 'lineno', '')}", child, parent


def tops(tree):
    """The names that a file binds itself at its top."""
    found = []
    for row in tree.body:
        if isinstance(row, (ast.FunctionDef, ast.ClassDef)):
            found.append(row.name)
        if isinstance(row, ast.Assign):
            found += [target.id for target in row.targets]
    return found


def own_attributes():
    methods = {node.name for _, node, _ in nodes() if isinstance(node, ast.FunctionDef)}
    values = {node.attr for _, node, _ in nodes() if isinstance(node, ast.Attribute) and isinstance(node.ctx, ast.Store)}
    return methods | values


def drawn_from(tree):
    return [row for row in ast.walk(tree) if isinstance(row, (ast.Import, ast.ImportFrom))]


class TestFiles(unittest.TestCase):
    def test_plain_files_alone(self):
        names = [path.name for path in PACKAGE.iterdir() if path.name != "__pycache__"]
        self.assertIn("__init__.py", names)
        for name in names:
            self.assertRegex(name, r"^([a-z][a-z0-9_]*|__init__|__main__)\.py$")

    def test_signs_words_and_sizes(self):
        for path in PACKAGE.glob("*.py"):
            rows = path.read_bytes().decode("ascii").split("\n")
            self.assertLessEqual(len(rows), 401, path.name)
            for number, row in enumerate(rows, 1):
                where = f"{path.name}:{number}"
                self.assertLessEqual(len(row), 120, where)
                self.assertRegex(row, r"^[ -~]*$", where)
                self.assertIsNone(WORDS.search(row), where)


class TestImports(unittest.TestCase):
    def test_from_the_package_alone(self):
        files = dict(trees())
        for name, tree in files.items():
            for row in drawn_from(tree):
                where = f"{name}:{row.lineno}"
                self.assertIsInstance(row, ast.ImportFrom, where)
                self.assertEqual(row.level, 0, where)
                self.assertRegex(row.module, r"^everyroad\.[a-z][a-z0-9_]*$", where)
                self.assertIn(row, tree.body, where)
                defined = tops(files[row.module.split(".")[1] + ".py"])
                for one in row.names:
                    self.assertIn(one.name, defined, where)

    def test_none_draws_from_itself_in_some_steps(self):
        rest = {name: {row.module.split(".")[1] + ".py" for row in drawn_from(tree)} for name, tree in trees()}
        # Whoever draws from a file draws from the __init__.py above it too.
        self.assertEqual(rest["__init__.py"], set())
        while rest:
            free = [name for name, needs in rest.items() if not needs & set(rest)]
            self.assertTrue(free, rest)
            for name in free:
                rest.pop(name)


class TestCode(unittest.TestCase):
    def test_forms(self):
        for where, node, parent in nodes():
            self.assertIn(type(node).__name__, NODES, where)
            if isinstance(node, ast.Expr):
                docstring = isinstance(parent, ast.Module) and node is parent.body[0]
                self.assertTrue(docstring or isinstance(node.value, ast.Call), where)
            if isinstance(node, ast.Assign):
                self.assertEqual(len(node.targets), 1, where)
            if isinstance(node, (ast.For, ast.While)):
                self.assertEqual(node.orelse, [], where)
            if isinstance(node, ast.ListComp):
                self.assertEqual(len(node.generators), 1, where)
                self.assertLessEqual(len(node.generators[0].ifs), 1, where)

    def test_tops(self):
        for name, tree in trees():
            self.assertEqual(len(tops(tree)), len(set(tops(tree))), name)
            for row in tree.body[1:]:
                kinds = (ast.ImportFrom, ast.FunctionDef, ast.ClassDef, ast.Assign)
                self.assertIsInstance(row, kinds, f"{name}:{row.lineno}")

    def test_functions(self):
        for where, node, _ in nodes():
            if isinstance(node, ast.FunctionDef):
                self.assertLessEqual(node.end_lineno - node.lineno + 1, 40, where)
                self.assertEqual(node.decorator_list, [], where)
                given = node.args
                self.assertEqual((given.vararg, given.kwarg, given.kwonlyargs, given.posonlyargs), (None, None, [], []))

    def test_classes(self):
        for where, node, parent in nodes():
            if isinstance(node, ast.ClassDef):
                self.assertIsInstance(parent, ast.Module, where)
                self.assertLessEqual(len(node.bases), 1, where)
                self.assertEqual((node.decorator_list, node.keywords), ([], []), where)
                for row in node.body:
                    self.assertIsInstance(row, (ast.FunctionDef, ast.Pass), where)

    def test_names(self):
        for where, node, parent in nodes():
            bound = None
            if isinstance(node, (ast.FunctionDef, ast.ClassDef)):
                bound = node.name
            elif isinstance(node, ast.arg):
                bound = node.arg
            elif isinstance(node, ast.Name):
                self.assertNotIn(node.id, UNUSED, where)
                if node.id in vars(builtins):
                    self.assertIn(node.id, PYTHONS_OWN, where)
                if isinstance(node.ctx, ast.Store):
                    bound = node.id
            if bound is not None:
                self.assertTrue(bound in DUNDERS or not bound.startswith("_"), where)
                # A method may be called like a name of Python's own, nothing else may.
                self.assertTrue(isinstance(parent, ast.ClassDef) or bound not in vars(builtins), where)

    def test_attributes(self):
        own = own_attributes()
        for where, node, _ in nodes():
            if isinstance(node, ast.Attribute):
                self.assertNotIn(node.attr, UNUSED, where)
                self.assertIn(node.attr, METHODS | own, where)

    def test_values(self):
        for where, node, _ in nodes():
            if isinstance(node, ast.Constant):
                self.assertIn(type(node.value), (int, str, bool, type(None)), where)
                self.assertNotIn("%", str(node.value), where)
            if isinstance(node, ast.Compare):
                for sign, right in zip(node.ops, node.comparators):
                    if isinstance(sign, (ast.Is, ast.IsNot)):
                        self.assertIn(getattr(right, "value", 0), (None, True, False), where)

    def test_walked_at_once(self):
        for where, node, parent in nodes():
            if isinstance(node, ast.Call) and getattr(node.func, "id", "") in ("zip", "enumerate", "reversed", "range"):
                walked = isinstance(parent, (ast.For, ast.comprehension)) and parent.iter is node
                handed = isinstance(parent, ast.Call) and parent.args[:1] == [node]
                self.assertTrue(walked or handed and getattr(parent.func, "id", "") in WALKERS, where)

    def test_sets_are_not_kept(self):
        for where, node, parent in nodes():
            if isinstance(node, ast.Call) and getattr(node.func, "id", "") in ("set", "frozenset"):
                handed = isinstance(parent, ast.Call) and getattr(parent.func, "id", "") in ("sorted", "len")
                self.assertTrue(handed or isinstance(parent, (ast.Compare, ast.BinOp)), where)


if __name__ == "__main__":
    unittest.main()
