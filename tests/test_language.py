"""The package keeps to the small part of Python that it is written in, as far as a test can see it."""

import ast
import pathlib
import re
import unittest

FOLDER = pathlib.Path(__file__).resolve().parent.parent / "fractioncode"
BUILT_IN = set(
    "len range enumerate zip min max sum abs sorted reversed int str bool list tuple dict set frozenset isinstance ord "
    "repr any all divmod Exception ValueError TypeError KeyError IndexError LookupError ZeroDivisionError "
    "ArithmeticError OverflowError RuntimeError NotImplementedError AttributeError StopIteration".split())
METHODS = set(
    "append clear copy count endswith extend find get index insert isalnum isalpha isdigit islower isspace isupper "
    "items join keys ljust lower lstrip partition pop remove replace reverse rfind rjust rpartition rsplit rstrip "
    "setdefault split splitlines startswith strip update upper values zfill bit_length".split())
NODES = (
    ast.Module, ast.ImportFrom, ast.alias, ast.FunctionDef, ast.ClassDef, ast.arguments, ast.arg, ast.Assign,
    ast.AugAssign, ast.If, ast.While, ast.For, ast.Return, ast.Break, ast.Continue, ast.Pass, ast.Raise, ast.Try,
    ast.ExceptHandler, ast.Expr, ast.Constant, ast.Name, ast.Load, ast.Store, ast.List, ast.Tuple, ast.Dict, ast.BinOp,
    ast.UnaryOp, ast.BoolOp, ast.Compare, ast.IfExp, ast.Call, ast.Attribute, ast.Subscript, ast.Slice, ast.ListComp,
    ast.comprehension, ast.JoinedStr, ast.FormattedValue, ast.Lambda, ast.keyword, ast.operator, ast.unaryop,
    ast.boolop, ast.cmpop)
NOT_NAMES = set(
    "register mro elements open input version_info with_traceback add_note attrgetter breakpoint builtins compile "
    "copyright credits delattr dir eval exec exit gc getattr globals hasattr help id importlib license locals "
    "methodcaller os quit setattr super type vars sys chr print hash next map filter format property".split())
NOT_WORDS = re.compile(
    r"\b(type|typing|typing_extensions|enum|Enum|IntEnum|StrEnum|Flag|IntFlag|Generic|Protocol|ABC|ABCMeta|namedtuple|"
    r"NamedTuple|TypedDict|TYPE_CHECKING|abstractmethod)\b|dataclass|overload|contextmanager")
OF_PYTHON = set(name for value in ("", 0, [], {}, set(), b"", ()) for name in dir(value))
FREE_VALUES = set("count index title find get join lower upper split strip copy add".split())


def files():
    paths = sorted(path for path in FOLDER.iterdir() if path.name != "__pycache__")
    return [(path.name, path.read_text(encoding="utf-8")) for path in paths]


def nodes(kind):
    """All nodes of a kind in the package, each with where it stands."""
    return [(f"{name}:{getattr(node, 'lineno', 0)}", node) for name, source in files()
            for node in ast.walk(ast.parse(source)) if isinstance(node, kind)]


def stored(node):
    """The names that a node binds."""
    if isinstance(node, ast.Name):
        return [node.id] if isinstance(node.ctx, ast.Store) else []
    if isinstance(node, ast.ExceptHandler):
        return [node.name] if node.name else []
    return [node.arg] if isinstance(node, ast.arg) else [node.name]


class FilesTest(unittest.TestCase):
    def test_files(self):
        for name, source in files():
            self.assertRegex(name, r"\A(__init__|[a-z][a-z0-9_]*)\.py\Z")
            self.assertLessEqual(len(source.splitlines()), 400, name)
            for number, line in enumerate(source.split("\n"), start=1):
                where = f"{name}:{number}"
                self.assertLessEqual(len(line), 120, where)
                self.assertRegex(line, r"\A[ -~]*\Z", where)
                self.assertIsNone(NOT_WORDS.search(line), where)

    def test_nodes(self):
        for where, node in nodes(ast.AST):
            self.assertIsInstance(node, NODES, where)

    def test_imports(self):
        drawn = {}
        for name, source in files():
            own = drawn.setdefault("fractioncode." + name[:-3], [])
            for node in ast.walk(ast.parse(source)):
                if isinstance(node, ast.ImportFrom):
                    self.assertRegex(node.module, r"\Afractioncode\.[a-z]+\Z")
                    self.assertTrue(all(alias.name != "*" and alias.asname is None for alias in node.names))
                    own.append(node.module)
        while drawn:
            free = [name for name, own in drawn.items() if not any(other in drawn for other in own)]
            self.assertNotEqual(free, [], drawn)
            for name in free:
                drawn.pop(name)

    def test_imported_names_are_defined_there(self):
        sources = dict(files())
        for where, node in nodes(ast.ImportFrom):
            top = ast.parse(sources[node.module.split(".")[1] + ".py"]).body
            defined = [name for one in top if isinstance(one, (ast.FunctionDef, ast.ClassDef)) for name in [one.name]]
            defined += [one.targets[0].id for one in top if isinstance(one, ast.Assign)]
            for alias in node.names:
                self.assertIn(alias.name, defined, where)

    def test_tops(self):
        plain = (ast.FunctionDef, ast.ClassDef, ast.ImportFrom, ast.Assign)
        for name, source in files():
            top = ast.parse(source).body
            self.assertIsNotNone(ast.get_docstring(ast.parse(source)), name)
            self.assertTrue(all(isinstance(node, plain) for node in top[1:]), name)
            bound = []
            for node in top[1:]:
                bound += [node.name] if isinstance(node, (ast.FunctionDef, ast.ClassDef)) else []
                bound += [node.targets[0].id] if isinstance(node, ast.Assign) else []
                bound += [alias.name for alias in node.names] if isinstance(node, ast.ImportFrom) else []
            self.assertEqual(len(bound), len(set(bound)), name)


class NamesTest(unittest.TestCase):
    def test_bound_names(self):
        for where, node in nodes((ast.Name, ast.arg, ast.FunctionDef, ast.ClassDef, ast.ExceptHandler)):
            for name in stored(node):
                if name != "__init__":
                    self.assertRegex(name, r"\A[A-Za-z][A-Za-z0-9_]*\Z", where)
                self.assertNotIn(name, BUILT_IN | NOT_NAMES, where)

    def test_no_local_is_called_like_a_class_or_an_import(self):
        for name, source in files():
            tree = ast.parse(source)
            tops = [node.name for node in tree.body if isinstance(node, ast.ClassDef)]
            tops += [alias.name for node in tree.body if isinstance(node, ast.ImportFrom) for alias in node.names]
            for node in ast.walk(tree):
                if isinstance(node, (ast.arg, ast.ExceptHandler)) or isinstance(node, ast.Name):
                    self.assertFalse(set(stored(node)) & set(tops), (name, stored(node)))

    def test_read_names(self):
        for name, source in files():
            tree = ast.parse(source)
            known = set(BUILT_IN)
            for node in ast.walk(tree):
                if isinstance(node, (ast.Name, ast.arg, ast.FunctionDef, ast.ClassDef, ast.ExceptHandler)):
                    known |= set(stored(node))
                if isinstance(node, ast.alias):
                    known.add(node.name)
            for node in ast.walk(tree):
                if isinstance(node, ast.Name):
                    self.assertIn(node.id, known, f"{name}:{node.lineno}")

    def test_methods_and_values(self):
        methods = set(one.name for _, node in nodes(ast.ClassDef) for one in node.body
                      if isinstance(one, ast.FunctionDef))
        values = set(node.attr for _, node in nodes(ast.Attribute) if isinstance(node.ctx, ast.Store))
        self.assertEqual(methods & values, set())
        self.assertEqual(values & (OF_PYTHON - FREE_VALUES), set())
        self.assertEqual((methods - {"__init__"}) & (OF_PYTHON - METHODS - {"add", "discard"}), set())
        called = set(node.func.attr for _, node in nodes(ast.Call) if isinstance(node.func, ast.Attribute))
        self.assertEqual(called - methods - METHODS, set())
        read = set(node.attr for _, node in nodes(ast.Attribute))
        self.assertEqual(read - methods - METHODS - values, set())
        self.assertEqual(read & NOT_NAMES, set())


class FormTest(unittest.TestCase):
    def test_functions(self):
        for where, node in nodes(ast.FunctionDef):
            self.assertLessEqual(node.end_lineno - node.lineno + 1, 40, where)
            self.assertEqual(node.decorator_list, [], where)
            given = node.args
            self.assertFalse(given.vararg or given.kwarg or given.kwonlyargs or given.posonlyargs or node.returns, where)
            self.assertTrue(ast.get_docstring(node) or node.name == "__init__", where)

    def test_classes(self):
        for where, node in nodes(ast.ClassDef):
            self.assertLessEqual(len(node.bases), 1, where)
            self.assertEqual((node.decorator_list, node.keywords), ([], []), where)
            self.assertTrue(all(isinstance(one, ast.FunctionDef) for one in node.body[1:]), where)

    def test_statements(self):
        for where, node in nodes(ast.Assign):
            self.assertEqual(len(node.targets), 1, where)
        for where, node in nodes((ast.For, ast.While)):
            self.assertEqual(node.orelse, [], where)
        for where, node in nodes(ast.Try):
            self.assertEqual(node.finalbody, [], where)
        for where, node in nodes(ast.ExceptHandler):
            self.assertIsInstance(node.type, ast.Name, where)
            self.assertNotIn(node.type.id, ("Exception", "TypeError"), where)

    def test_expressions(self):
        for where, node in nodes(ast.BinOp):
            self.assertNotIsInstance(node.op, (ast.Div, ast.MatMult), where)
            if isinstance(node.op, ast.Pow):
                self.assertIsInstance(node.right, ast.Constant, where)
        for where, node in nodes(ast.Constant):
            self.assertIsInstance(node.value, (int, str, bool, type(None)), where)
            self.assertNotIn("%", str(node.value), where)
        for where, node in nodes(ast.Compare):
            for operator, right in zip(node.ops, node.comparators):
                if isinstance(operator, (ast.Is, ast.IsNot)):
                    self.assertIsInstance(right, ast.Constant, where)
        for where, node in nodes(ast.ListComp):
            self.assertEqual(len(node.generators), 1, where)
            self.assertLessEqual(len(node.generators[0].ifs), 1, where)
        for where, node in nodes(ast.FormattedValue):
            self.assertIsInstance(node.value, ast.Name, where)


if __name__ == "__main__":
    unittest.main()
