"""The package's files keep to the part of Python that the program is written in, as far as a test can see it."""

import ast
import builtins
import os
import re
import unittest

PACKAGE = os.path.join(os.path.dirname(os.path.dirname(os.path.abspath(__file__))), "thingsworld")

NODES = {
    "Module", "FunctionDef", "ClassDef", "arguments", "arg", "Return", "Assign", "AugAssign", "For", "While", "If", "Raise",
    "Try", "ExceptHandler", "ImportFrom", "alias", "Expr", "Pass", "Break", "Continue", "BoolOp", "And", "Or", "BinOp",
    "Add", "Sub", "Mult", "FloorDiv", "Mod", "Pow", "LShift", "RShift", "BitOr", "BitXor", "BitAnd", "UnaryOp", "Invert",
    "Not", "USub", "Lambda", "IfExp", "Dict", "List", "Tuple", "ListComp", "comprehension", "Compare", "Eq", "NotEq", "Lt",
    "LtE", "Gt", "GtE", "Is", "IsNot", "In", "NotIn", "Call", "keyword", "Constant", "Attribute", "Subscript", "Name",
    "Slice", "Load", "Store", "JoinedStr", "FormattedValue"}
OWN_NAMES = set("""len range enumerate zip min max sum abs sorted reversed int str bool list tuple dict set frozenset
    isinstance ord repr any all divmod Exception ValueError TypeError KeyError IndexError LookupError ZeroDivisionError
    ArithmeticError OverflowError RuntimeError NotImplementedError AttributeError StopIteration""".split())
METHODS = set("""append clear copy count endswith extend find get index insert isalnum isalpha isdigit islower isspace
    isupper items join keys ljust lower lstrip partition pop remove replace reverse rfind rjust rpartition rsplit rstrip
    setdefault split splitlines startswith strip update upper values zfill bit_length""".split())
VALUES = set("count index title find get join lower upper split strip copy add".split())
WORDS = re.compile(r"\b(type|typing|typing_extensions|enum|Enum|IntEnum|StrEnum|Flag|IntFlag|Generic|Protocol|ABC|ABCMeta"
                   r"|namedtuple|NamedTuple|TypedDict|TYPE_CHECKING|abstractmethod)\b|dataclass|overload|contextmanager")
UNUSED = set("""register mro elements open input version_info with_traceback add_note attrgetter breakpoint builtins compile
    copyright credits delattr dir eval exec exit gc getattr globals hasattr help id importlib license locals methodcaller os
    quit setattr super type vars sys format format_map""".split())


def python_files():
    return [name for name in sorted(os.listdir(PACKAGE)) if name != "__pycache__"]


def source(name):
    with open(os.path.join(PACKAGE, name), encoding="utf-8", newline="") as file:
        return file.read()


def nodes_of(name, *kinds):
    return [node for node in ast.walk(ast.parse(source(name))) if isinstance(node, kinds)]


def top_names(name):
    names = []
    for node in ast.parse(source(name)).body:
        if isinstance(node, (ast.FunctionDef, ast.ClassDef)):
            names.append(node.name)
        elif isinstance(node, ast.Assign):
            names.append(node.targets[0].id)
    return names


def bound_names(name):
    names = [node.arg for node in nodes_of(name, ast.arg)]
    names += [node.id for node in nodes_of(name, ast.Name) if isinstance(node.ctx, ast.Store)]
    return names


def imported(name):
    return [alias.name for node in nodes_of(name, ast.ImportFrom) for alias in node.names]


class Language(unittest.TestCase):

    def test_files(self):
        for name in python_files():
            self.assertRegex(name, r"^(__init__|[a-z][a-z0-9_]*)\.py$")
            self.assertTrue(name == "__init__.py" or not hasattr(builtins, name[:-3]), name)
            self.assertNotRegex(name, r"^(test|tests|testing|test_.*|site|conftest)\.py$")

    def test_sizes_and_signs(self):
        for name in python_files():
            text = source(name)
            self.assertRegex(text, r"\A[ -~\n]*\Z")
            lines = text.split("\n")
            self.assertLessEqual(len(lines), 400)
            self.assertLessEqual(max(len(line) for line in lines), 120)
            for node in nodes_of(name, ast.FunctionDef):
                self.assertLessEqual(node.end_lineno - node.lineno + 1, 40, node.name)

    def test_words(self):
        for name in python_files():
            self.assertIsNone(WORDS.search(source(name)))

    def test_statements_and_expressions(self):
        for name in python_files():
            for node in nodes_of(name, ast.AST):
                self.assertIn(node.__class__.__name__, NODES, name)
            for node in nodes_of(name, ast.Assign):
                self.assertEqual(len(node.targets), 1)
                self.assertNotIsInstance(node.targets[0], (ast.Tuple, ast.List))
            for node in nodes_of(name, ast.For, ast.While):
                self.assertEqual(node.orelse, [])
            for node in nodes_of(name, ast.ListComp):
                self.assertEqual(len(node.generators), 1)
                self.assertLessEqual(len(node.generators[0].ifs), 1)
            for node in nodes_of(name, ast.Constant):
                self.assertIsInstance(node.value, (int, str, bool, type(None)))
            for node in nodes_of(name, ast.Compare):
                for sign, value in zip(node.ops, node.comparators):
                    if isinstance(sign, (ast.Is, ast.IsNot)):
                        self.assertIn(value.value, (None, True, False))

    def test_functions_and_classes(self):
        for name in python_files():
            for node in nodes_of(name, ast.FunctionDef):
                self.assertEqual(node.decorator_list, [])
                self.assertIsNone(node.returns)
                self.assertIsNone(node.args.vararg)
                self.assertIsNone(node.args.kwarg)
                self.assertEqual(node.args.kwonlyargs, [])
            for node in nodes_of(name, ast.ClassDef):
                self.assertEqual(node.decorator_list, [])
                for part in node.body[1:]:
                    self.assertIsInstance(part, ast.FunctionDef)

    def test_names(self):
        for name in python_files():
            tops = top_names(name)
            self.assertEqual(len(tops), len(set(tops)))
            classes = [node.name for node in nodes_of(name, ast.ClassDef)]
            for bound in bound_names(name):
                self.assertRegex(bound, r"^[A-Za-z][A-Za-z0-9_]*$")
                self.assertFalse(hasattr(builtins, bound), bound)
                self.assertNotIn(bound, imported(name) + classes)
            known = set(bound_names(name)) | set(tops) | set(imported(name)) | OWN_NAMES
            for node in nodes_of(name, ast.Name):
                self.assertIn(node.id, known)
                self.assertNotIn(node.id, UNUSED)

    def test_imports(self):
        drawn = {}
        for name in python_files():
            drawn[name] = []
            for node in nodes_of(name, ast.ImportFrom):
                self.assertEqual(node.level, 0)
                folder, file = node.module.split(".")
                self.assertEqual(folder, "thingsworld")
                drawn[name].append(file + ".py")
                for alias in node.names:
                    self.assertIn(alias.name, top_names(file + ".py"))
        while drawn:
            free = [name for name in drawn if not set(drawn[name]) & set(drawn)]
            self.assertNotEqual(free, [], "files draw from one another")
            for name in free:
                del drawn[name]

    def test_methods_and_values(self):
        methods = set()
        values = set()
        foreign = set()
        for kind in (str, int, list, dict, set, bytes):
            foreign |= set(dir(kind))
        for name in python_files():
            for node in nodes_of(name, ast.ClassDef):
                methods |= {part.name for part in node.body if isinstance(part, ast.FunctionDef)}
            values |= {node.attr for node in nodes_of(name, ast.Attribute) if isinstance(node.ctx, ast.Store)}
        methods.discard("__init__")
        self.assertEqual(methods & values, set())
        self.assertEqual((methods & foreign) - METHODS - {"add", "discard"}, set())
        self.assertEqual((values & foreign) - VALUES, set())
        for name in python_files():
            for node in nodes_of(name, ast.Attribute):
                self.assertIn(node.attr, methods | values | METHODS)
                self.assertNotIn(node.attr, UNUSED)


if __name__ == "__main__":
    unittest.main()
