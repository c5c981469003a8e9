"""Holds the package to the rules of the language that can be seen in its text.

Not every rule is looked at: a file that passes here can still break one.
"""

import ast
import builtins
import pathlib
import re
import unittest

PACKAGE = pathlib.Path(__file__).resolve().parent.parent / "knewby"

ALLOWED_NODES = set("""
Module FunctionDef ClassDef arguments arg Return Assign AugAssign For While If Raise Try ExceptHandler
ImportFrom alias Expr Pass Break Continue BoolOp And Or BinOp Add Sub Mult FloorDiv Mod Pow LShift RShift BitOr BitXor
BitAnd UnaryOp Not USub UAdd Invert Lambda IfExp Dict Set ListComp comprehension Compare Eq NotEq Lt LtE Gt GtE Is IsNot
In NotIn Call keyword JoinedStr FormattedValue Constant Attribute Subscript Name List Tuple Slice Load Store
""".split())

ALLOWED_BUILTINS = set("""
len range enumerate zip min max sum abs sorted reversed int str bool list tuple dict set frozenset isinstance ord repr
any all divmod Exception ValueError TypeError KeyError IndexError LookupError ZeroDivisionError ArithmeticError
OverflowError RuntimeError NotImplementedError AttributeError StopIteration
""".split())

ALLOWED_METHODS = set("""
append clear copy count endswith extend find get index insert isalnum isalpha isdigit islower isspace isupper items join
keys ljust lower lstrip partition pop remove replace reverse rfind rjust rpartition rsplit rstrip setdefault split
splitlines startswith strip update upper values zfill bit_length __init__
""".split())

UNUSED_NAMES = set("""
register mro elements open input version_info with_traceback add_note format format_map attrgetter breakpoint builtins
compile copyright credits delattr dir eval exec exit gc getattr globals hasattr help id importlib license locals
methodcaller os quit setattr super vars sys __name__
""".split())

UNUSED_WORDS = re.compile(
    r"\b(type|typing|typing_extensions|enum|Enum|IntEnum|StrEnum|Flag|IntFlag|Generic|Protocol|ABC|ABCMeta|namedtuple"
    r"|NamedTuple|TypedDict|TYPE_CHECKING|abstractmethod)\b|dataclass|overload|contextmanager"
)

UNDERSCORED = {"__init__", "__eq__", "__repr__", "__str__", "__len__"}


def files():
    return sorted(PACKAGE.glob("*.py"))


def module_of(path):
    return "knewby." + path.stem


def names_bound(tree):
    for node in ast.walk(tree):
        if isinstance(node, (ast.FunctionDef, ast.ClassDef)):
            yield node.name
        elif isinstance(node, ast.arg):
            yield node.arg
        elif isinstance(node, ast.Name) and isinstance(node.ctx, ast.Store):
            yield node.id
        elif isinstance(node, ast.ExceptHandler) and node.name:
            yield node.name


def top_names(tree):
    names = []
    for node in tree.body:
        if isinstance(node, (ast.FunctionDef, ast.ClassDef)):
            names.append(node.name)
        elif isinstance(node, ast.Assign):
            names.append(node.targets[0].id)
    return names


def is_plain(node):
    if isinstance(node, (ast.List, ast.Tuple)):
        return all(is_plain(one) for one in node.elts)
    if isinstance(node, ast.Dict):
        return all(is_plain(one) for one in node.keys + node.values)
    return isinstance(node, (ast.Constant, ast.Name))


class Form(unittest.TestCase):
    def each_file(self):
        self.assertIn(PACKAGE / "__init__.py", files())
        for path in files():
            text = path.read_text(encoding="utf-8")
            yield path, text, ast.parse(text)

    def test_only_plainly_called_files_lie_in_the_package(self):
        for path in PACKAGE.iterdir():
            if path.name != "__pycache__":
                self.assertRegex(path.name, r"\A(__init__|__main__|[a-z][a-z0-9_]*)\.py\Z")
                self.assertFalse(path.name.startswith("test"), path)
                self.assertFalse(hasattr(builtins, path.stem) and path.stem != "__init__", path)

    def test_signs_and_sizes(self):
        for path, text, tree in self.each_file():
            self.assertRegex(text, r"\A[ -~\n]*\Z", path)
            rows = text.split("\n")
            self.assertLessEqual(len(rows), 400, path)
            self.assertLessEqual(max(len(row) for row in rows), 120, path)
            self.assertNotRegex(text, UNUSED_WORDS, path)
            for node in ast.walk(tree):
                if isinstance(node, ast.FunctionDef):
                    self.assertLessEqual(node.end_lineno - node.lineno + 1, 40, (path, node.name))

    def test_nodes(self):
        for path, text, tree in self.each_file():
            for node in ast.walk(tree):
                self.assertIn(node.__class__.__name__, ALLOWED_NODES, (path, getattr(node, "lineno", 0)))
                self.check_node(path, node)

    def check_node(self, path, node):
        where = (path, getattr(node, "lineno", 0))
        if isinstance(node, ast.Assign):
            self.assertEqual(1, len(node.targets), where)
        elif isinstance(node, (ast.For, ast.While)):
            self.assertEqual([], node.orelse, where)
        elif isinstance(node, ast.Try):
            self.assertEqual([], node.finalbody, where)
        elif isinstance(node, ast.Constant):
            self.assertIsInstance(node.value, (int, str, type(None)), where)
            self.assertNotIn("%", str(node.value), where)
        elif isinstance(node, ast.ListComp):
            self.assertEqual(1, len(node.generators), where)
            self.assertLessEqual(len(node.generators[0].ifs), 1, where)
        elif isinstance(node, ast.FunctionDef):
            self.assertEqual([], node.decorator_list, where)
            self.assertIsNone(node.args.vararg or node.args.kwarg, where)
            self.assertEqual([], node.args.kwonlyargs + node.args.posonlyargs, where)
        elif isinstance(node, ast.Compare):
            sides = [node.left] + node.comparators
            for k, operator in enumerate(node.ops):
                if isinstance(operator, (ast.Is, ast.IsNot)):
                    found = [one for one in sides[k:k + 2] if isinstance(one, ast.Constant)]
                    self.assertIn(True, [one.value in (None, True, False) for one in found], where)

    def test_tops_and_classes(self):
        for path, text, tree in self.each_file():
            self.assertIsNotNone(ast.get_docstring(tree), path)
            for node in tree.body[1:]:
                self.assertIsInstance(node, (ast.ImportFrom, ast.FunctionDef, ast.ClassDef, ast.Assign), path)
                if isinstance(node, ast.Assign):
                    self.assertTrue(is_plain(node.value), (path, node.lineno))
            names = top_names(tree)
            self.assertEqual(len(set(names)), len(names), path)
            classes = [node for node in ast.walk(tree) if isinstance(node, ast.ClassDef)]
            for node in classes:
                self.assertIn(node, tree.body, path)
                self.assertLessEqual(len(node.bases), 1, path)
                self.assertEqual([], node.decorator_list + node.keywords, path)
                for part in node.body:
                    self.assertIsInstance(part, (ast.FunctionDef, ast.Pass), (path, part.lineno))

    def test_names(self):
        for path, text, tree in self.each_file():
            for name in names_bound(tree):
                if name not in UNDERSCORED:
                    self.assertRegex(name, r"\A[A-Za-z][A-Za-z0-9_]*\Z", path)
                    self.assertNotIn(name, UNUSED_NAMES, path)
            methods = [one for node in tree.body if isinstance(node, ast.ClassDef) for one in node.body]
            free = {one.name for one in methods if isinstance(one, ast.FunctionDef)}
            for name in names_bound(tree):
                self.assertTrue(name in free or not hasattr(builtins, name), (path, name))
            for node in ast.walk(tree):
                if isinstance(node, ast.Name):
                    self.assertNotIn(node.id, UNUSED_NAMES, (path, node.lineno))
                    if hasattr(builtins, node.id):
                        self.assertIn(node.id, ALLOWED_BUILTINS, (path, node.lineno))

    def test_no_local_is_called_like_an_import_or_a_class_of_its_file(self):
        for path, text, tree in self.each_file():
            taken = {one.name for node in tree.body if isinstance(node, ast.ImportFrom) for one in node.names}
            taken |= {node.name for node in tree.body if isinstance(node, ast.ClassDef)}
            inner = [node for node in tree.body if isinstance(node, (ast.FunctionDef, ast.ClassDef))]
            for name in [name for node in inner for part in node.body for name in names_bound(part)]:
                self.assertNotIn(name, taken, path)
            for node in ast.walk(tree):
                if isinstance(node, ast.arg):
                    self.assertNotIn(node.arg, taken, (path, node.lineno))

    def test_sets_are_neither_kept_nor_walked(self):
        for path, text, tree in self.each_file():
            for node in ast.walk(tree):
                if isinstance(node, ast.Assign):
                    made = node.value
                elif isinstance(node, (ast.For, ast.comprehension)):
                    made = node.iter
                else:
                    continue
                is_made = isinstance(made, ast.Call) and isinstance(made.func, ast.Name)
                self.assertFalse(is_made and made.func.id in ("set", "frozenset"), path)
                self.assertNotIsInstance(made, ast.Set, path)

    def test_methods_and_values(self):
        methods, values, called = set(), set(), set()
        for path, text, tree in self.each_file():
            for node in ast.walk(tree):
                if isinstance(node, ast.ClassDef):
                    methods.update(part.name for part in node.body if isinstance(part, ast.FunctionDef))
                elif isinstance(node, ast.Attribute) and isinstance(node.ctx, ast.Store):
                    values.add(node.attr)
                elif isinstance(node, ast.Call) and isinstance(node.func, ast.Attribute):
                    called.add(node.func.attr)
        self.assertEqual(set(), methods & values)
        self.assertEqual(set(), (methods | values | called) & UNUSED_NAMES)
        self.assertEqual(set(), called - methods - ALLOWED_METHODS)
        self.assertEqual([], [name for name in sorted(values) if not name[0].isalpha()])

    def test_imports_name_their_file_and_run_in_no_ring(self):
        drawn, defined = {}, {}
        for path, text, tree in self.each_file():
            defined[module_of(path)] = top_names(tree)
            drawn[module_of(path)] = [node for node in ast.walk(tree) if isinstance(node, ast.ImportFrom)]
        for module, rows in drawn.items():
            for node in rows:
                self.assertEqual((0, 0), (node.level, node.col_offset), module)
                self.assertIn(node.module, defined, module)
                for one in node.names:
                    self.assertIn(one.name, defined[node.module], module)
        left = {module: {node.module for node in rows} for module, rows in drawn.items()}
        while left:
            ready = [module for module in left if not left[module] & set(left)]
            self.assertTrue(ready, left)
            left = {module: rows for module, rows in left.items() if module not in ready}


if __name__ == "__main__":
    unittest.main()
