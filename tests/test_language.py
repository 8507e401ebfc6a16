"""What a walk over the package's files can see of ../shared/LANGUAGE.md; the rest is for the reader."""

import ast
import builtins
import re
import unittest
from pathlib import Path

PACKAGE = Path(__file__).resolve().parent.parent / "seamarks"
OWN_NAMES = set("""
    len range enumerate zip min max sum abs sorted reversed int str bool list tuple dict set frozenset
    isinstance ord repr any all divmod Exception ValueError TypeError KeyError IndexError LookupError
    ZeroDivisionError ArithmeticError OverflowError RuntimeError NotImplementedError AttributeError StopIteration
""".split())
OWN_METHODS = set("""
    append clear copy count endswith extend find get index insert isalnum isalpha isdigit islower isspace
    isupper items join keys ljust lower lstrip partition pop remove replace reverse rfind rjust rpartition
    rsplit rstrip setdefault split splitlines startswith strip update upper values zfill bit_length
""".split())
TWO_UNDERSCORES = {"__init__", "__eq__", "__repr__", "__str__", "__len__"}
NEVER = {"register", "mro", "elements", "open", "input", "version_info", "with_traceback", "add_note"}
WORDS = re.compile(
    r"\b(type|typing|typing_extensions|enum|Enum|IntEnum|StrEnum|Flag|IntFlag|Generic|Protocol|ABC|ABCMeta"
    r"|namedtuple|NamedTuple|TypedDict|TYPE_CHECKING|abstractmethod)\b|dataclass|overload|contextmanager"
)
KINDS = set("""
    Module FunctionDef ClassDef arguments arg Return Assign AugAssign For While If Raise Try ExceptHandler
    ImportFrom alias Expr Pass Break Continue BoolOp BinOp UnaryOp Lambda IfExp Dict Set ListComp comprehension
    Compare Call JoinedStr FormattedValue Constant Attribute Subscript Name List Tuple Slice keyword
    Load Store And Or Not Invert USub UAdd Add Sub Mult FloorDiv Mod Pow LShift RShift BitOr BitXor BitAnd
    Eq NotEq Lt LtE Gt GtE Is IsNot In NotIn
""".split())
FILES = sorted(PACKAGE.glob("*.py"))
TREES = {path.stem: ast.parse(path.read_text()) for path in FILES}


def nodes(kind):
    for name, tree in TREES.items():
        for node in ast.walk(tree):
            if isinstance(node, kind):
                yield name, node


def drawn(tree):
    return [node for node in tree.body if isinstance(node, ast.ImportFrom)]


def bound_at_top(tree):
    bound = [node.name for node in tree.body if isinstance(node, (ast.FunctionDef, ast.ClassDef))]
    for node in tree.body:
        if isinstance(node, ast.Assign):
            bound.extend(target.id for target in node.targets)
    return bound


def reached(name):
    found = []
    waiting = [name]
    while waiting:
        for node in drawn(TREES[waiting.pop()]):
            other = node.module.partition(".")[2]
            if other not in found:
                found.append(other)
                waiting.append(other)
    return found


class LanguageTest(unittest.TestCase):
    def test_files(self):
        names = [path.name for path in PACKAGE.iterdir() if path.name != "__pycache__"]
        self.assertIn("__init__.py", names)
        for name in names:
            self.assertRegex(name, r"\A([a-z][a-z0-9_]*|__init__|__main__)\.py\Z")
            self.assertNotIn(name.partition(".")[0], dir(builtins))

    def test_sizes_signs_and_words(self):
        for path in FILES:
            text = path.read_text()
            self.assertRegex(text, r"\A[ -~\n]*\Z", path.name)
            self.assertIsNone(WORDS.search(text), path.name)
            rows = text.split("\n")
            self.assertLessEqual(len(rows), 400, path.name)
            self.assertLessEqual(max(len(row) for row in rows), 120, path.name)
        for name, node in nodes(ast.FunctionDef):
            self.assertLessEqual(node.end_lineno - node.lineno + 1, 40, f"{name}: {node.name}")

    def test_kinds_of_statements_and_expressions(self):
        for name, node in nodes(ast.AST):
            self.assertIn(type(node).__name__, KINDS, f"{name}: {getattr(node, 'lineno', '')}")
            self.assertFalse(getattr(node, "decorator_list", None), name)
        for name, node in nodes((ast.For, ast.While)):
            self.assertEqual(node.orelse, [], name)
        for name, node in nodes(ast.Assign):
            self.assertEqual(len(node.targets), 1, f"{name}: {node.lineno}")
        for name, node in nodes(ast.arguments):
            self.assertEqual((node.vararg, node.kwarg, node.kwonlyargs, node.posonlyargs), (None, None, [], []))
        for name, node in nodes(ast.ListComp):
            self.assertEqual(len(node.generators), 1, f"{name}: {node.lineno}")
            self.assertLessEqual(len(node.generators[0].ifs), 1, f"{name}: {node.lineno}")

    def test_plain_values(self):
        for name, node in nodes(ast.Constant):
            self.assertIn(type(node.value), (int, str, bool, type(None)), f"{name}: {node.lineno}")
            self.assertNotIn("%", str(node.value), f"{name}: {node.lineno}")
        for name, node in nodes(ast.Compare):
            if any(isinstance(sign, (ast.Is, ast.IsNot)) for sign in node.ops):
                self.assertIn(getattr(node.comparators[0], "value", 0), (None, True, False))

    def test_imports(self):
        for name, tree in TREES.items():
            for node in [node for node in ast.walk(tree) if isinstance(node, ast.ImportFrom)]:
                self.assertIn(node, tree.body, name)
                self.assertEqual(node.level, 0, name)
                self.assertEqual(node.module.partition(".")[0], "seamarks", name)
                source = TREES[node.module.partition(".")[2]]
                for taken in node.names:
                    self.assertIn(taken.name, bound_at_top(source), name)
                    self.assertIsNone(taken.asname, name)
            self.assertNotIn(name, reached(name))

    def test_names(self):
        for name, tree in TREES.items():
            bound = bound_at_top(tree) + [taken.name for node in drawn(tree) for taken in node.names]
            self.assertEqual(len(bound), len(set(bound)), name)
            classes = [node.name for node in tree.body if isinstance(node, ast.ClassDef)]
            apart = classes + [taken.name for node in drawn(tree) for taken in node.names] + dir(builtins)
            for node in ast.walk(tree):
                if isinstance(node, ast.arg):
                    self.assertNotIn(node.arg, apart, f"{name}: {node.lineno}")
                if isinstance(node, ast.Name) and isinstance(node.ctx, ast.Store):
                    self.assertNotIn(node.id, apart, f"{name}: {node.lineno}")
                if isinstance(node, ast.Name) and node.id not in bound and node.id in dir(builtins):
                    self.assertIn(node.id, OWN_NAMES, f"{name}: {node.lineno}")

    def test_plain_names(self):
        for name, node in nodes((ast.Name, ast.arg, ast.Attribute, ast.FunctionDef, ast.ClassDef)):
            word = [getattr(node, field) for field in ("id", "arg", "attr", "name") if hasattr(node, field)][0]
            self.assertNotIn(word, NEVER, f"{name}: {node.lineno}")
            if word not in TWO_UNDERSCORES:
                self.assertRegex(word, r"\A[A-Za-z][A-Za-z0-9_]*\Z", f"{name}: {node.lineno}")

    def test_methods_are_python_s_listed_ones_or_the_program_s_own(self):
        own = {node.name for name, top in nodes(ast.ClassDef) for node in top.body if hasattr(node, "name")}
        for name, node in nodes(ast.Call):
            if isinstance(node.func, ast.Attribute):
                self.assertIn(node.func.attr, OWN_METHODS | own, f"{name}: {node.lineno}")

    def test_classes(self):
        for name, node in nodes(ast.ClassDef):
            self.assertIn(node, TREES[name].body)
            self.assertLessEqual(len(node.bases), 1)
            methods = [inner.name for inner in node.body if not isinstance(inner, ast.Pass)]
            self.assertEqual(len(methods), len(set(methods)), f"{name}: {node.name}")
        methods = {inner.name for name, node in nodes(ast.ClassDef) for inner in node.body if hasattr(inner, "name")}
        values = {node.attr for name, node in nodes(ast.Attribute) if isinstance(node.ctx, ast.Store)}
        self.assertEqual(methods & values, set())
        for word in methods - TWO_UNDERSCORES | values:
            for kind in (str, int, list, tuple, dict, set, frozenset, bytes):
                self.assertFalse(hasattr(kind, word), word)

    def test_lists_and_dicts_of_a_file_s_top(self):
        for name, tree in TREES.items():
            kept = {target.id: node.value for node in tree.body if isinstance(node, ast.Assign)
                    for target in node.targets if isinstance(node.value, (ast.List, ast.Dict))}
            for value in kept.values():
                inner = [node for node in ast.walk(value) if isinstance(node, (ast.List, ast.Dict))]
                self.assertEqual(inner, [value], name)
            # Read by an index or by get alone.
            read = [node.value for node in ast.walk(tree) if isinstance(node, ast.Subscript)]
            read += [node.value for node in ast.walk(tree) if isinstance(node, ast.Attribute) and node.attr == "get"]
            for node in ast.walk(tree):
                if isinstance(node, ast.Name) and isinstance(node.ctx, ast.Load) and node.id in kept:
                    self.assertIn(node, read, f"{name}: {node.lineno}")
            for node in [node for node in ast.walk(tree) if isinstance(node, ast.Subscript)]:
                if isinstance(node.value, ast.Name) and node.value.id in kept:
                    self.assertIsInstance(node.ctx, ast.Load, f"{name}: {node.lineno}")


if __name__ == "__main__":
    unittest.main()
