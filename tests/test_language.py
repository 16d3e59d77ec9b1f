"""The rules of LANGUAGE.md that can be seen in the text of each file of the package."""

import ast
import builtins
import re
import unittest
from pathlib import Path

PACKAGE = Path(__file__).resolve().parent.parent / "swapstars"

NODES = """Module Expr Constant Name Load Store Del ImportFrom alias FunctionDef ClassDef arguments arg Return Assign
AugAssign For While If Break Continue Pass Raise Assert Delete Try ExceptHandler BinOp UnaryOp BoolOp Compare IfExp
Call keyword Attribute Subscript Slice List Tuple Dict Set ListComp DictComp SetComp comprehension JoinedStr
FormattedValue Lambda Starred Add Sub Mult FloorDiv Mod Pow BitAnd BitOr BitXor LShift RShift Invert Not USub And Or
Eq NotEq Lt LtE Gt GtE In NotIn Is IsNot""".split()

BUILTINS = """len range enumerate zip min max sum abs sorted reversed int str bool bytes list tuple dict set frozenset
isinstance ord repr any all divmod Exception ValueError TypeError KeyError IndexError LookupError ZeroDivisionError
ArithmeticError OverflowError RuntimeError NotImplementedError AttributeError StopIteration""".split()

METHODS = """append clear copy count endswith extend find get index insert isalnum isalpha isdigit islower isspace
isupper items join keys ljust lower lstrip partition pop remove replace reverse rfind rjust rpartition rsplit rstrip
setdefault split splitlines startswith strip update upper values zfill bit_length title capitalize swapcase casefold
center expandtabs removeprefix removesuffix rindex isascii isdecimal isnumeric istitle isidentifier isprintable
translate maketrans sort add discard encode decode hex fromhex to_bytes from_bytes""".split()

BARRED_NAMES = """register mro elements open input version_info with_traceback add_note attrgetter breakpoint builtins
compile copyright credits delattr dir eval exec exit gc getattr globals hasattr help id importlib license locals
methodcaller os quit setattr super type vars sys""".split()

BARRED_WORDS = """type typing typing_extensions enum Enum IntEnum StrEnum Flag IntFlag Generic Protocol ABC ABCMeta
namedtuple NamedTuple TypedDict TYPE_CHECKING abstractmethod""".split()

OWN_DOUBLE = ["__init__", "__eq__", "__repr__", "__str__", "__len__"]


def files():
    return sorted(path for path in PACKAGE.rglob("*") if "__pycache__" not in path.parts and path.is_file())


def bound_names(node):
    """The names that a node gives a meaning to."""
    if isinstance(node, ast.Name) and isinstance(node.ctx, ast.Store):
        return [node.id]
    if isinstance(node, (ast.FunctionDef, ast.ClassDef)):
        return [node.name]
    if isinstance(node, ast.arg):
        return [node.arg]
    if isinstance(node, ast.alias):
        return [node.asname or node.name]
    if isinstance(node, ast.ExceptHandler) and node.name:
        return [node.name]
    return []


def own_methods():
    """The names of all methods that classes of the package define."""
    found = [node for path in files() for node in ast.walk(ast.parse(path.read_text(encoding="utf-8")))]
    return [part.name for node in found if isinstance(node, ast.ClassDef)
            for part in node.body if isinstance(part, ast.FunctionDef)]


def of_each_file(look):
    """A test that looks at the text and the parts of each file."""
    def test(self):
        for path in files():
            text = path.read_text(encoding="utf-8")
            with self.subTest(path.name):
                look(self, text, list(ast.walk(ast.parse(text))))
    return test


class EachFile(unittest.TestCase):
    def test_names_of_files(self):
        self.assertIn(PACKAGE / "__init__.py", files())
        for path in files():
            self.assertRegex(path.name, r"^(__init__|__main__|[a-z][a-z0-9_]*)\.py$")
            self.assertEqual(path.parent, PACKAGE)

    @of_each_file
    def test_characters_and_sizes(self, text, nodes):
        self.assertRegex(text, r"\A[ -~\n]*\Z")
        lines = text.split("\n")
        self.assertLessEqual(len(lines), 400)
        self.assertLessEqual(max(len(line) for line in lines), 120)
        for node in nodes:
            if isinstance(node, ast.FunctionDef):
                self.assertLessEqual(node.end_lineno - node.lineno + 1, 40, node.name)

    @of_each_file
    def test_words(self, text, nodes):
        words = re.findall(r"\w+", text)
        self.assertEqual([word for word in words if word in BARRED_WORDS], [])
        self.assertNotRegex(text, "dataclass|overload|contextmanager")

    @of_each_file
    def test_kinds_of_code(self, text, nodes):
        for node in nodes:
            self.assertIn(node.__class__.__name__, NODES, getattr(node, "lineno", None))
            self.assertFalse(getattr(node, "decorator_list", []))
            if isinstance(node, ast.Constant):
                self.assertNotIsInstance(node.value, (float, complex, type(...)))
                if isinstance(node.value, str):
                    self.assertNotIn("%", node.value)
            if isinstance(node, ast.BinOp) and isinstance(node.op, ast.Pow):
                self.assertIsInstance(node.right, ast.Constant)
            if isinstance(node, (ast.For, ast.While)):
                self.assertEqual(node.orelse, [])
            if isinstance(node, ast.arguments):
                self.assertFalse(node.vararg or node.kwarg or node.posonlyargs)

    @of_each_file
    def test_is_goes_with_none_and_truths_only(self, text, nodes):
        for node in nodes:
            if isinstance(node, ast.Compare):
                for sign, right in zip(node.ops, node.comparators):
                    if isinstance(sign, (ast.Is, ast.IsNot)):
                        self.assertIsInstance(right, ast.Constant)
                        self.assertTrue(right.value is None or isinstance(right.value, bool))

    @of_each_file
    def test_imports(self, text, nodes):
        for node in nodes:
            if isinstance(node, ast.ImportFrom):
                self.assertEqual(node.level, 0)
                self.assertRegex(node.module, r"^swapstars\.[a-z0-9_]+$")
                defined = ast.parse((PACKAGE / (node.module.split(".")[1] + ".py")).read_text()).body
                here = [name for part in defined if not isinstance(part, ast.ImportFrom)
                        for inner in [part] + getattr(part, "targets", []) for name in bound_names(inner)]
                for name in node.names:
                    self.assertIn(name.name, here)

    @of_each_file
    def test_names(self, text, nodes):
        for node in nodes:
            for name in bound_names(node):
                if name not in OWN_DOUBLE:
                    self.assertRegex(name, "^[A-Za-z][A-Za-z0-9_]*$")
                    self.assertFalse(hasattr(builtins, name) or name in BARRED_NAMES, name)
            if isinstance(node, ast.Name) and hasattr(builtins, node.id):
                self.assertIn(node.id, BUILTINS)

    @of_each_file
    def test_locals_have_no_name_of_an_import(self, text, nodes):
        imported = [name for node in nodes if isinstance(node, ast.alias) for name in bound_names(node)]
        classes = [node.name for node in nodes if isinstance(node, ast.ClassDef)]
        for function in [node for node in nodes if isinstance(node, ast.FunctionDef)]:
            inside = [name for node in ast.walk(function) if node != function for name in bound_names(node)]
            self.assertEqual([name for name in inside if name in imported + classes], [])

    @of_each_file
    def test_module_level_binds_each_name_once(self, text, nodes):
        names = []
        for part in ast.parse(text).body:
            self.assertIsInstance(part, (ast.Expr, ast.ImportFrom, ast.FunctionDef, ast.ClassDef, ast.Assign))
            inner = [part] + getattr(part, "targets", []) + (part.names if isinstance(part, ast.ImportFrom) else [])
            names += [name for node in inner for name in bound_names(node)]
        self.assertEqual(len(names), len(set(names)))

    @of_each_file
    def test_methods(self, text, nodes):
        for node in nodes:
            if isinstance(node, ast.Call) and isinstance(node.func, ast.Attribute):
                self.assertIn(node.func.attr, METHODS + own_methods())


if __name__ == "__main__":
    unittest.main()
