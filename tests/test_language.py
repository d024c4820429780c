"""The form of the package's own files: the rules of LANGUAGE.md that can be seen in the files."""

import ast
import builtins
import os
import re
import unittest

import ringloads

FOLDER = os.path.dirname(os.path.abspath(ringloads.__file__))
BUILT_IN = set(
    "len range enumerate zip min max sum abs sorted reversed int str bool list tuple dict set frozenset isinstance "
    "ord repr any all divmod Exception ValueError TypeError KeyError IndexError LookupError ZeroDivisionError "
    "ArithmeticError OverflowError RuntimeError NotImplementedError AttributeError StopIteration".split()
)
METHODS = set(
    "append clear copy count endswith extend find get index insert isalnum isalpha isdigit islower isspace isupper "
    "items join keys ljust lower lstrip partition pop remove replace reverse rfind rjust rpartition rsplit rstrip "
    "setdefault split splitlines startswith strip update upper values zfill bit_length".split()
)
TWO_UNDERSCORES = {"__init__", "__eq__", "__repr__", "__str__", "__len__"}
STATEMENTS = (
    ast.Assign, ast.AugAssign, ast.If, ast.While, ast.For, ast.Return, ast.Break, ast.Continue, ast.Pass, ast.Raise,
    ast.Try, ast.Expr, ast.FunctionDef, ast.ClassDef, ast.ImportFrom,
)
NOT_USED = (
    ast.Div, ast.MatMult, ast.SetComp, ast.DictComp, ast.GeneratorExp, ast.NamedExpr, ast.Starred, ast.Await,
    ast.Yield, ast.YieldFrom, ast.AnnAssign,
)
NO_NAMES = set(
    "register mro elements open input version_info with_traceback add_note attrgetter breakpoint builtins compile "
    "copyright credits delattr dir eval exec exit gc getattr globals hasattr help id importlib license locals "
    "methodcaller os quit setattr super type vars sys chr format format_map".split()
)
WORDS = re.compile(
    r"\b(type|typing|typing_extensions|enum|Enum|IntEnum|StrEnum|Flag|IntFlag|Generic|Protocol|ABC|ABCMeta|namedtuple|"
    r"NamedTuple|TypedDict|TYPE_CHECKING|abstractmethod)\b|dataclass|overload|contextmanager"
)


def files():
    """Each file of the package: its name without .py, its text, its tree."""
    found = []
    for name in sorted(os.listdir(FOLDER)):
        if name != "__pycache__":
            with open(os.path.join(FOLDER, name), encoding="utf-8") as file:
                text = file.read()
            found.append((name[:-3], text, ast.parse(text)))
    return found


def bound_at_top(tree):
    """The names that a file's top binds itself, imports aside."""
    names = []
    for node in tree.body:
        if isinstance(node, (ast.FunctionDef, ast.ClassDef)):
            names.append(node.name)
        elif isinstance(node, ast.Assign):
            names.extend([target.id for target in node.targets])
    return names


def drawn(tree):
    """The rows of a file that import."""
    return [node for node in ast.walk(tree) if isinstance(node, (ast.Import, ast.ImportFrom))]


class Language(unittest.TestCase):
    def test_files_and_signs(self):
        for name in sorted(os.listdir(FOLDER)):
            if name != "__pycache__":
                self.assertRegex(name, r"^(__init__|__main__|[a-z][a-z0-9_]*)\.py$")
                self.assertTrue(name == "__init__.py" or not hasattr(builtins, name[:-3]), name)
        for name, text, tree in files():
            self.assertRegex(text, r"\A[ -~\n]*\Z", name)
            self.assertIsNone(WORDS.search(text), name)
            rows = text.split("\n")
            self.assertLessEqual(len(rows), 401, name)
            for number, row in enumerate(rows, start=1):
                self.assertLessEqual(len(row), 120, (name, number))

    def test_tops_of_files(self):
        for name, text, tree in files():
            self.assertIsNotNone(ast.get_docstring(tree), name)
            for node in tree.body[1:]:
                self.assertIsInstance(node, (ast.ImportFrom, ast.Assign, ast.FunctionDef, ast.ClassDef), name)
            names = bound_at_top(tree) + [one.name for row in drawn(tree) for one in row.names]
            self.assertEqual(len(names), len(set(names)), name)

    def test_imports(self):
        trees = {name: tree for name, text, tree in files()}
        below = {}
        for name, tree in trees.items():
            below[name] = []
            for row in drawn(tree):
                self.assertIsInstance(row, ast.ImportFrom, name)
                self.assertIn(row, tree.body, name)
                self.assertEqual(row.level, 0, name)
                self.assertEqual(row.module.split(".")[0], "ringloads", name)
                source = row.module.split(".")[1]
                below[name].append(source)
                for one in row.names:
                    self.assertIsNone(one.asname, name)
                    self.assertIn(one.name, bound_at_top(trees[source]), name)
        while below:
            free = [name for name in below if not [source for source in below[name] if source in below]]
            self.assertTrue(free, f"files that draw from one another: {sorted(below)}")
            below = {name: below[name] for name in below if name not in free}

    def test_functions(self):
        for name, text, tree in files():
            for node in ast.walk(tree):
                if not isinstance(node, (ast.FunctionDef, ast.Lambda)):
                    continue
                self.assertIsNone(node.args.vararg or node.args.kwarg, name)
                self.assertEqual(node.args.posonlyargs + node.args.kwonlyargs, [], name)
                for one in node.args.args:
                    self.assertIsNone(one.annotation, name)
                if isinstance(node, ast.FunctionDef):
                    self.assertEqual(node.decorator_list, [], name)
                    self.assertIsNone(node.returns, name)
                    self.assertLessEqual(node.end_lineno - node.lineno + 1, 40, (name, node.name))

    def test_classes(self):
        for name, text, tree in files():
            for node in ast.walk(tree):
                if isinstance(node, ast.ClassDef):
                    self.assertIn(node, tree.body, name)
                    self.assertLessEqual(len(node.bases), 1, name)
                    self.assertEqual(node.decorator_list + node.keywords, [], name)
                    for one in node.body:
                        is_text = isinstance(one, ast.Expr) and isinstance(one.value, ast.Constant)
                        self.assertTrue(is_text or isinstance(one, ast.FunctionDef), (name, node.name))

    def test_methods_and_values_of_classes(self):
        methods = set()
        values = set()
        for name, text, tree in files():
            for node in ast.walk(tree):
                if isinstance(node, ast.ClassDef):
                    own = [one.name for one in node.body if isinstance(one, ast.FunctionDef)]
                    self.assertEqual(len(own), len(set(own)), (name, node.name))
                    methods.update(own)
                if isinstance(node, ast.Attribute) and isinstance(node.ctx, ast.Store):
                    self.assertIsInstance(node.value, ast.Name, name)
                    values.add(node.attr)
        self.assertEqual(methods & values, set())
        taken = set([name for kind in (str, int, list, dict, set, bytes, tuple) for name in dir(kind)])
        self.assertEqual(methods & taken - TWO_UNDERSCORES - METHODS, set())
        self.assertEqual(values & taken, set())

    def test_values_at_the_tops_of_files(self):
        for name, text, tree in files():
            functions = [node.name for node in tree.body if isinstance(node, ast.FunctionDef)]
            for node in tree.body:
                if isinstance(node, ast.Assign):
                    self.check_plain(node.value, functions, (name, node.lineno), True)

    def check_plain(self, node, functions, where, is_outer):
        if isinstance(node, ast.Name):
            self.assertIn(node.id, functions, where)
        elif isinstance(node, (ast.Tuple, ast.List, ast.Dict)):
            self.assertTrue(is_outer or isinstance(node, ast.Tuple), where)
            inner = node.keys + node.values if isinstance(node, ast.Dict) else node.elts
            for one in inner:
                self.check_plain(one, functions, where, False)
        else:
            self.assertIsInstance(node, ast.Constant, where)

    def test_f_strings(self):
        for name, text, tree in files():
            for node in ast.walk(tree):
                if isinstance(node, ast.FormattedValue):
                    self.assertIsInstance(node.value, ast.Name, (name, node.lineno))
                    self.assertIsNone(node.format_spec, (name, node.lineno))

    def test_statements_and_expressions(self):
        for name, text, tree in files():
            for node in ast.walk(tree):
                where = (name, getattr(node, "lineno", None))
                self.assertNotIsInstance(node, NOT_USED, where)
                if isinstance(node, ast.stmt):
                    self.assertIsInstance(node, STATEMENTS, where)
                if isinstance(node, ast.Assign):
                    self.assertEqual(len(node.targets), 1, where)
                if isinstance(node, (ast.For, ast.While)):
                    self.assertEqual(node.orelse, [], where)
                if isinstance(node, ast.ListComp):
                    self.assertEqual(len(node.generators), 1, where)
                    self.assertLessEqual(len(node.generators[0].ifs), 1, where)
                if isinstance(node, ast.Constant):
                    self.assertNotIsInstance(node.value, (float, complex, bytes), where)
                    if isinstance(node.value, str):
                        self.assertNotIn("%", node.value, where)
                if isinstance(node, ast.Compare):
                    self.check_is(node, where)
                if isinstance(node, ast.BinOp) and isinstance(node.op, ast.Pow):
                    self.assertIsInstance(node.right, ast.Constant, where)

    def check_is(self, node, where):
        for sign, right in zip(node.ops, node.comparators):
            if isinstance(sign, (ast.Is, ast.IsNot)):
                plain = [one.value for one in (node.left, right) if isinstance(one, ast.Constant)]
                self.assertTrue([one for one in plain if one is None or isinstance(one, bool)], where)

    def test_names(self):
        for name, text, tree in files():
            imported = [one.name for row in drawn(tree) for one in row.names]
            classes = [node.name for node in tree.body if isinstance(node, ast.ClassDef)]
            for node in ast.walk(tree):
                where = (name, getattr(node, "lineno", None))
                if isinstance(node, ast.Name):
                    self.assertNotIn(node.id, NO_NAMES, where)
                    self.assertFalse(node.id.startswith("_"), where)
                    if isinstance(node.ctx, ast.Load):
                        self.assertTrue(not hasattr(builtins, node.id) or node.id in BUILT_IN, where)
                    else:
                        self.check_bound(node.id, imported + classes, where)
                if isinstance(node, ast.arg):
                    self.check_bound(node.arg, imported + classes, where)
                if isinstance(node, ast.FunctionDef) and node.name.startswith("_"):
                    self.assertIn(node.name, TWO_UNDERSCORES, where)

    def check_bound(self, bound, taken, where):
        self.assertFalse(hasattr(builtins, bound), where)
        self.assertFalse(bound.startswith("_"), where)
        self.assertNotIn(bound, taken, where)

    def test_methods(self):
        own = set(TWO_UNDERSCORES)
        for name, text, tree in files():
            for node in ast.walk(tree):
                if isinstance(node, ast.ClassDef):
                    own.update([one.name for one in node.body if isinstance(one, ast.FunctionDef)])
        for name, text, tree in files():
            for node in ast.walk(tree):
                if isinstance(node, ast.Call) and isinstance(node.func, ast.Attribute):
                    self.assertIn(node.func.attr, METHODS | own, (name, node.lineno))
