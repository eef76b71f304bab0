"""The package keeps to the small part of Python that it is written in.

Only what can be seen by going through the code is looked at here.
"""

import ast
import builtins
import pathlib
import re
import unittest

PACKAGE = pathlib.Path(__file__).resolve().parent.parent / "turnedcards"

NODES = """
Module Expr Constant ImportFrom alias FunctionDef arguments arg ClassDef Assign AugAssign Name Load Store Attribute
Subscript Slice Call keyword Return If While For Break Continue Pass Raise Try ExceptHandler BinOp UnaryOp BoolOp
Compare IfExp List Tuple Dict Set ListComp comprehension JoinedStr FormattedValue Lambda Add Sub Mult FloorDiv Mod Pow
LShift RShift BitAnd BitOr BitXor Invert Not USub UAdd And Or Eq NotEq Lt LtE Gt GtE Is IsNot In NotIn
""".split()
OWN_OF_PYTHON = """
len range enumerate zip min max sum abs sorted reversed int str bool list tuple dict set frozenset isinstance ord repr
any all divmod Exception ValueError TypeError KeyError IndexError LookupError ZeroDivisionError ArithmeticError
OverflowError RuntimeError NotImplementedError AttributeError StopIteration
""".split()
METHODS = """
append clear copy count endswith extend find get index insert isalnum isalpha isdigit islower isspace isupper items
join keys ljust lower lstrip partition pop remove replace reverse rfind rjust rpartition rsplit rstrip setdefault
split splitlines startswith strip update upper values zfill bit_length
""".split()
WALKED_AT_ONCE = ("zip", "enumerate", "reversed", "range", "items", "keys", "values")
WALKERS = ("list", "tuple", "dict", "sorted", "sum", "any", "all", "enumerate", "zip", "min", "max", "join")
NAMES_NOT_USED = """
register mro elements open input version_info with_traceback add_note attrgetter breakpoint builtins compile copyright
credits delattr dir eval exec exit gc getattr globals hasattr help id importlib license locals methodcaller os quit
setattr super type vars sys format format_map args encode sort
""".split()
WORDS_NOT_USED = re.compile(
    r"\b(type|typing|typing_extensions|enum|Enum|IntEnum|StrEnum|Flag|IntFlag|Generic|Protocol|ABC|ABCMeta|namedtuple"
    r"|NamedTuple|TypedDict|TYPE_CHECKING|abstractmethod)\b|dataclass|overload|contextmanager"
)
FILE_NAMES_NOT_USED = ("test", "tests", "testing", "site", "conftest", "sitecustomize", "usercustomize")


class Source:
    def __init__(self, path):
        self.path = path
        self.words = path.read_text(encoding="utf-8")
        self.tree = ast.parse(self.words)
        self.nodes = list(ast.walk(self.tree))

    def of_kind(self, *kinds):
        return [node for node in self.nodes if isinstance(node, kinds)]

    def imports(self):
        return {
            alias.name: node.module.split(".")[-1]
            for node in self.of_kind(ast.ImportFrom) for alias in node.names
        }

    def defined(self):
        """All names that are bound at the file's top, but the imported ones."""
        names = []
        for node in self.tree.body:
            if isinstance(node, (ast.FunctionDef, ast.ClassDef)):
                names.append(node.name)
            if isinstance(node, ast.Assign):
                names.append(node.targets[0].id)
        return names

    def locals(self):
        names = {node.arg for node in self.of_kind(ast.arg)}
        top = {id(node.targets[0]) for node in self.tree.body if isinstance(node, ast.Assign)}
        for node in self.of_kind(ast.Name):
            if isinstance(node.ctx, ast.Store) and id(node) not in top:
                names.add(node.id)
        return names


def sources():
    return [Source(path) for path in sorted(PACKAGE.glob("**/*.py"))]


def is_plain(node, functions):
    if isinstance(node, ast.Constant):
        return isinstance(node.value, (int, str, bool, type(None)))
    if isinstance(node, ast.UnaryOp):
        return isinstance(node.op, ast.USub) and is_plain(node.operand, functions)
    if isinstance(node, (ast.List, ast.Tuple)):
        return all(is_plain(part, functions) for part in node.elts)
    if isinstance(node, ast.Dict):
        return all(is_plain(part, functions) for part in node.keys + node.values)
    return isinstance(node, ast.Name) and node.id in functions


class Files(unittest.TestCase):
    def test_names(self):
        for path in PACKAGE.rglob("*"):
            if "__pycache__" in path.parts:
                continue
            self.assertRegex(path.name, r"\A([a-z][a-z0-9_]*|__init__|__main__)\.py\Z")
            self.assertNotIn(path.stem, FILE_NAMES_NOT_USED)
            self.assertFalse(path.stem.startswith("test_"))
            self.assertTrue(path.stem == "__init__" or not hasattr(builtins, path.stem), path)
        self.assertTrue((PACKAGE / "__init__.py").exists())

    def test_sizes_and_signs(self):
        for source in sources():
            lines = source.words.split("\n")
            self.assertLessEqual(len(lines), 400, source.path)
            for line in lines:
                self.assertLessEqual(len(line), 120, source.path)
            self.assertRegex(source.words, r"\A[ -~\n]*\Z")
            self.assertIsNone(WORDS_NOT_USED.search(source.words), source.path)
            for node in source.of_kind(ast.FunctionDef):
                self.assertLessEqual(node.end_lineno - node.lineno + 1, 40, node.name)


class Top(unittest.TestCase):
    def test_statements(self):
        for source in sources():
            functions = []
            for at, node in enumerate(source.tree.body):
                if isinstance(node, ast.Expr):
                    self.assertTrue(at == 0 and isinstance(node.value.value, str))
                elif isinstance(node, ast.Assign):
                    self.assertTrue(is_plain(node.value, functions), ast.dump(node))
                    if isinstance(node.value, (ast.List, ast.Dict)):
                        within = [part for part in ast.walk(node.value) if isinstance(part, (ast.List, ast.Dict))]
                        self.assertEqual(len(within), 1)
                else:
                    self.assertIsInstance(node, (ast.ImportFrom, ast.FunctionDef, ast.ClassDef))
                if isinstance(node, ast.FunctionDef):
                    functions.append(node.name)

    def test_names_once(self):
        for source in sources():
            names = source.defined() + list(source.imports())
            self.assertEqual(len(names), len(set(names)), source.path)

    def test_imports(self):
        every = {source.path.stem: source for source in sources()}
        for source in every.values():
            for node in source.of_kind(ast.ImportFrom):
                self.assertIn(node, source.tree.body)
                self.assertRegex(node.module, r"\Aturnedcards\.[a-z]+\Z")
                for alias in node.names:
                    self.assertIsNone(alias.asname)
                    self.assertIn(alias.name, every[node.module.split(".")[1]].defined())
        drawn = {name: set(source.imports().values()) for name, source in every.items()}
        while drawn:
            free = [name for name in drawn if not drawn[name] & set(drawn)]
            self.assertTrue(free, f"drawn in a ring: {sorted(drawn)}")
            for name in free:
                drawn.pop(name)

    def test_no_name_of_the_file_shadowed(self):
        for source in sources():
            classes = [node.name for node in source.of_kind(ast.ClassDef)]
            for name in source.locals():
                self.assertNotIn(name, classes)
                self.assertNotIn(name, source.imports(), source.path)
                self.assertFalse(hasattr(builtins, name), name)

    def test_what_stands_at_the_top_is_only_read(self):
        for source in sources():
            kept = [node.targets[0].id for node in source.tree.body
                    if isinstance(node, ast.Assign) and isinstance(node.value, (ast.List, ast.Dict))]
            for node in source.of_kind(ast.Attribute):
                if isinstance(node.value, ast.Name) and node.value.id in kept:
                    self.assertIn(node.attr, ("get", "items", "keys", "values", "index", "count"))
            for node in source.of_kind(ast.Subscript):
                if isinstance(node.value, ast.Name) and node.value.id in kept:
                    self.assertIsInstance(node.ctx, ast.Load)


class Code(unittest.TestCase):
    def test_nodes(self):
        for source in sources():
            for node in source.nodes:
                self.assertIn(node.__class__.__name__, NODES, (source.path, getattr(node, "lineno", 0)))
                if isinstance(node, (ast.FunctionDef, ast.ClassDef)):
                    self.assertEqual(node.decorator_list, [])
                if isinstance(node, ast.Assign):
                    self.assertEqual(len(node.targets), 1)
                if isinstance(node, (ast.For, ast.While)):
                    self.assertEqual(node.orelse, [])
                if isinstance(node, ast.ListComp):
                    self.assertEqual(len(node.generators), 1)
                    self.assertLessEqual(len(node.generators[0].ifs), 1)
                if isinstance(node, ast.arguments):
                    self.assertFalse(node.vararg or node.kwarg or node.kwonlyargs or node.posonlyargs)
                if isinstance(node, ast.Expr):
                    self.assertIsInstance(node.value, (ast.Call, ast.Constant))

    def test_values(self):
        for source in sources():
            for node in source.of_kind(ast.Constant):
                self.assertIsInstance(node.value, (int, str, type(None)))
                if isinstance(node.value, str):
                    self.assertNotIn("%", node.value)
            for node in source.of_kind(ast.BinOp):
                if isinstance(node.op, ast.Pow):
                    self.assertIsInstance(node.right, ast.Constant)
            for node in source.of_kind(ast.Compare):
                for op, right in zip(node.ops, node.comparators):
                    if isinstance(op, (ast.Is, ast.IsNot)):
                        self.assertIsInstance(right, ast.Constant)

    def test_names(self):
        for source in sources():
            known = set(source.defined()) | set(source.imports()) | source.locals() | set(OWN_OF_PYTHON)
            for node in source.of_kind(ast.Name):
                self.assertIn(node.id, known, source.path)
                self.assertRegex(node.id, r"\A[A-Za-z][A-Za-z0-9_]*\Z")
                self.assertNotIn(node.id, NAMES_NOT_USED)
            for node in source.of_kind(ast.Attribute):
                self.assertRegex(node.attr, r"\A[A-Za-z][A-Za-z0-9_]*\Z")
                self.assertNotIn(node.attr, NAMES_NOT_USED)

    def test_methods_and_values_of_objects(self):
        methods = set()
        values = set()
        called = set()
        for source in sources():
            for node in source.of_kind(ast.ClassDef):
                for part in node.body:
                    self.assertIsInstance(part, (ast.FunctionDef, ast.Expr))
                    if isinstance(part, ast.FunctionDef):
                        methods.add(part.name)
            for node in source.of_kind(ast.Attribute):
                if isinstance(node.ctx, ast.Store):
                    values.add(node.attr)
            for node in source.of_kind(ast.Call):
                if isinstance(node.func, ast.Attribute):
                    called.add(node.func.attr)
        self.assertEqual(methods & values, set())
        self.assertEqual(called - methods - set(METHODS), set())
        for own in (str, int, list, dict, set, bytes, tuple):
            for name in (methods | values) - {"__init__", "__eq__", "__repr__", "__str__", "__len__"}:
                self.assertFalse(hasattr(own, name), name)

    def test_walked_at_once(self):
        for source in sources():
            fine = set()
            for node in source.of_kind(ast.For, ast.comprehension):
                fine.add(node.iter)
            for node in source.of_kind(ast.Call):
                if getattr(node.func, "id", getattr(node.func, "attr", "")) in WALKERS:
                    fine.update(node.args)
            for node in source.of_kind(ast.Call):
                if getattr(node.func, "id", getattr(node.func, "attr", "")) in WALKED_AT_ONCE:
                    self.assertIn(node, fine, (source.path, node.lineno))

    def test_python_s_own_are_called(self):
        for source in sources():
            called = {node.func for node in source.of_kind(ast.Call)}
            for node in source.of_kind(ast.Call):
                called.update(keyword.value for keyword in node.keywords)
            for node in source.of_kind(ast.Name):
                if node.id in OWN_OF_PYTHON and not node.id.endswith("Error"):
                    self.assertIn(node, called, (source.path, node.lineno))


if __name__ == "__main__":
    unittest.main()
