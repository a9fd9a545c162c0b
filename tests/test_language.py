"""The rules of LANGUAGE.md that can be told from the package's files alone."""

import ast
import builtins
import os
import re
import unittest

import skewhouse

FOLDER = os.path.dirname(os.path.abspath(skewhouse.__file__))

OWN_NAMES = set("""len range enumerate zip min max sum abs sorted reversed int str bool list tuple dict set
frozenset isinstance ord repr any all divmod Exception ValueError TypeError KeyError IndexError LookupError
ZeroDivisionError ArithmeticError OverflowError RuntimeError NotImplementedError AttributeError
StopIteration""".split())

METHODS = set("""append clear copy count endswith extend find get index insert isalnum isalpha isdigit islower
isspace isupper items join keys ljust lower lstrip partition pop remove replace reverse rfind rjust rpartition
rsplit rstrip setdefault split splitlines startswith strip update upper values zfill bit_length
__init__""".split())

DUNDERS = {"__init__", "__eq__", "__repr__", "__str__", "__len__"}

NODES = set("""Module FunctionDef ClassDef Lambda arguments arg Assign AugAssign If While For Return Break Continue
Pass Raise Try ExceptHandler Expr Constant Name Load Store Attribute Subscript Slice List Tuple Dict Set ListComp
comprehension BinOp Add Sub Mult FloorDiv Mod Pow LShift RShift BitAnd BitOr BitXor UnaryOp Not USub UAdd Invert
BoolOp And Or Compare Eq NotEq Lt LtE Gt GtE Is IsNot In NotIn IfExp Call keyword JoinedStr FormattedValue
ImportFrom alias""".split())

# L17: names that stand nowhere, and names that are no plain names (Python's own are told by OWN_NAMES).
NOWHERE = set("register mro elements open input version_info with_traceback add_note format format_map".split())
NO_NAMES = set("attrgetter builtins gc importlib methodcaller os sys".split())

# L26: what Python's own values have, and which of these names an object's value may bear all the same.
PYTHONS = set().union(*[dir(kind) for kind in (str, int, list, tuple, dict, set, frozenset, bytes)])
VALUES = set("count index title find get join lower upper split strip copy add".split())

WORDS = re.compile(
    r"\b(?:type|typing|typing_extensions|enum|Enum|IntEnum|StrEnum|Flag|IntFlag|Generic|Protocol|ABC|ABCMeta"
    r"|namedtuple|NamedTuple|TypedDict|TYPE_CHECKING|abstractmethod)\b|dataclass|overload|contextmanager"
)


def files():
    return sorted(name for name in os.listdir(FOLDER) if name != "__pycache__")


def text_of(name):
    with open(os.path.join(FOLDER, name), encoding="utf-8", newline="") as file:
        return file.read()


def tree_of(name):
    return ast.parse(text_of(name))


def drawn_from(name):
    return [node.module for node in ast.walk(tree_of(name)) if isinstance(node, ast.ImportFrom)]


def bound_names(tree):
    names = [node.id for node in ast.walk(tree) if isinstance(node, ast.Name) and isinstance(node.ctx, ast.Store)]
    names += [node.arg for node in ast.walk(tree) if isinstance(node, ast.arg)]
    names += [node.name for node in ast.walk(tree) if isinstance(node, ast.ExceptHandler) and node.name]
    return names


def own_methods():
    names = set()
    for name in files():
        for node in ast.walk(tree_of(name)):
            if isinstance(node, ast.ClassDef):
                names.update(method.name for method in node.body if isinstance(method, ast.FunctionDef))
    return names


def own_values():
    names = set()
    for name in files():
        for node in ast.walk(tree_of(name)):
            if isinstance(node, ast.Attribute) and isinstance(node.ctx, ast.Store):
                names.add(node.attr)
    return names


class FilesTest(unittest.TestCase):
    def test_names_of_files(self):
        self.assertIn("__init__.py", files())
        for name in files():
            self.assertRegex(name, r"\A(?:__init__|[a-z][a-z0-9_]*)\.py\Z")
            self.assertNotIn(name[:-3], dir(builtins))

    def test_signs_and_sizes(self):
        for name in files():
            text = text_of(name)
            with self.subTest(name):
                self.assertRegex(text, r"\A[ -~\n]*\Z")
                self.assertLessEqual(text.count("\n"), 400)
                self.assertLessEqual(max(len(line) for line in text.split("\n")), 120)
                self.assertIsNone(WORDS.search(text))

    def test_functions_are_short(self):
        for name in files():
            for node in ast.walk(tree_of(name)):
                if isinstance(node, ast.FunctionDef):
                    self.assertLessEqual(node.end_lineno - node.lineno + 1, 40, node.name)

    def test_the_top_of_each_file(self):
        for name in files():
            tops = tree_of(name).body
            self.assertIsNotNone(ast.get_docstring(tree_of(name)), name)
            for node in tops[1:]:
                self.assertIsInstance(node, (ast.ImportFrom, ast.FunctionDef, ast.ClassDef, ast.Assign), name)

    def test_the_values_at_the_top_of_each_file(self):
        plain = (ast.Constant, ast.List, ast.Tuple, ast.Dict, ast.UnaryOp, ast.USub, ast.Load)
        for name in files():
            tops = tree_of(name).body
            defined = [node.name for node in tops if isinstance(node, ast.FunctionDef)]
            for given in [node for node in tops if isinstance(node, ast.Assign)]:
                for node in ast.walk(given.value):
                    if isinstance(node, ast.Name):
                        self.assertIn(node.id, defined, f"{name}:{node.lineno}")
                    else:
                        self.assertIsInstance(node, plain, f"{name}:{given.lineno}")

    def test_classes_hold_methods_alone(self):
        for name in files():
            for node in ast.walk(tree_of(name)):
                if isinstance(node, ast.ClassDef):
                    self.assertLessEqual(len(node.bases), 1, node.name)
                    for part in node.body:
                        self.assertIsInstance(part, (ast.FunctionDef, ast.Pass), node.name)


class ImportsTest(unittest.TestCase):
    def test_only_the_packages_own_files(self):
        for name in files():
            for node in ast.walk(tree_of(name)):
                if isinstance(node, ast.ImportFrom):
                    self.assertEqual(node.level, 0)
                    self.assertRegex(node.module, r"\Askewhouse\.[a-z]")
                    self.assertTrue(all(each.name != "*" and each.asname is None for each in node.names))

    def test_no_two_files_draw_from_one_another(self):
        left = {name: drawn_from(name) for name in files()}
        while left:
            free = [name for name in left if not any(other.removeprefix("skewhouse.") + ".py" in left for other in left[name])]
            self.assertNotEqual(free, [], left)
            for name in free:
                left.pop(name)


class CodeTest(unittest.TestCase):
    def test_kinds_of_statements_and_expressions(self):
        for name in files():
            for node in ast.walk(tree_of(name)):
                self.assertIn(node.__class__.__name__, NODES, f"{name}:{getattr(node, 'lineno', 0)}")

    def test_statements_by_themselves_are_calls(self):
        for name in files():
            tree = tree_of(name)
            for node in ast.walk(tree):
                if isinstance(node, ast.Expr) and node is not tree.body[0]:
                    self.assertIsInstance(node.value, ast.Call, f"{name}:{node.lineno}")

    def test_forms_that_are_left_out(self):
        for name in files():
            for node in ast.walk(tree_of(name)):
                where = f"{name}:{getattr(node, 'lineno', 0)}"
                if isinstance(node, (ast.FunctionDef, ast.ClassDef)):
                    self.assertEqual(node.decorator_list, [], where)
                if isinstance(node, ast.arguments):
                    self.assertEqual((node.vararg, node.kwarg, node.kwonlyargs, node.posonlyargs), (None, None, [], []))
                if isinstance(node, (ast.For, ast.While)):
                    self.assertEqual(node.orelse, [], where)
                if isinstance(node, ast.Try):
                    self.assertEqual(node.finalbody, [], where)
                if isinstance(node, ast.Assign):
                    self.assertEqual(len(node.targets), 1, where)
                if isinstance(node, ast.comprehension):
                    self.assertLessEqual(len(node.ifs), 1, where)
                if isinstance(node, ast.ListComp):
                    self.assertEqual(len(node.generators), 1, where)
                if isinstance(node, ast.FormattedValue):
                    self.assertIsInstance(node.value, ast.Name, where)

    def test_values(self):
        for name in files():
            for node in ast.walk(tree_of(name)):
                if isinstance(node, ast.Constant):
                    self.assertIsInstance(node.value, (int, str, bool, type(None)))
                    self.assertNotIn("%", str(node.value))
                if isinstance(node, ast.Compare):
                    for kind, side in zip(node.ops, node.comparators):
                        if isinstance(kind, (ast.Is, ast.IsNot)):
                            self.assertIsInstance(side, ast.Constant)

    def test_names(self):
        for name in files():
            tree = tree_of(name)
            tops = [node.name for node in tree.body if isinstance(node, (ast.FunctionDef, ast.ClassDef))]
            drawn = [each.name for node in tree.body if isinstance(node, ast.ImportFrom) for each in node.names]
            self.assertEqual(len(set(tops + drawn)), len(tops + drawn), name)
            for node in ast.walk(tree):
                if isinstance(node, ast.Name) and node.id in dir(builtins):
                    self.assertIn(node.id, OWN_NAMES, name)
            for bound in bound_names(tree) + tops:
                self.assertNotIn(bound, dir(builtins), name)
                self.assertNotEqual(bound[0], "_", name)
            for bound in bound_names(tree):
                self.assertNotIn(bound, drawn, name)

    def test_methods(self):
        own = own_methods()
        for method in own:
            self.assertTrue(method in DUNDERS or not method.startswith("_"), method)
        for name in files():
            for node in ast.walk(tree_of(name)):
                if isinstance(node, ast.Call) and isinstance(node.func, ast.Attribute):
                    self.assertIn(node.func.attr, METHODS | own, f"{name}:{node.lineno}")

    def test_no_name_is_both_a_method_and_a_value(self):
        self.assertEqual(own_values() & own_methods(), set())

    def test_no_name_is_one_of_pythons_own_values(self):
        self.assertEqual((own_methods() & PYTHONS) - METHODS - DUNDERS - {"add", "discard"}, set())
        self.assertEqual((own_values() & PYTHONS) - VALUES, set())
        self.assertNotIn("args", own_values())

    def test_names_that_are_not_used(self):
        for name in files():
            for node in ast.walk(tree_of(name)):
                if isinstance(node, ast.Name):
                    self.assertNotIn(node.id, NOWHERE | NO_NAMES, f"{name}:{node.lineno}")
                if isinstance(node, ast.Attribute):
                    self.assertNotIn(node.attr, NOWHERE, f"{name}:{node.lineno}")


if __name__ == "__main__":
    unittest.main()
