"""More rules of LANGUAGE.md: how values are walked, kept and handed on, told from the package's files alone."""

import ast
import re
import unittest

from tests.test_language import files, text_of, tree_of

WALKED = {"zip", "enumerate", "reversed", "range"}
WALKED_METHODS = {"items", "keys", "values"}
WALKERS = {"list", "tuple", "dict", "sorted", "sum", "any", "all", "enumerate", "zip"}
CHANGES = set("append clear extend insert pop remove reverse setdefault update".split())
READERS = {"len", "list", "tuple", "dict", "sorted", "sum", "any", "all", "min", "max", "enumerate", "zip", "reversed"}
READING_METHODS = {"get", "items", "keys", "values", "index", "count", "copy"}
KEYWORDS = {"sorted": {"key", "reverse"}, "min": {"key", "default"}, "max": {"key", "default"}}
KEYWORDS.update({"sum": {"start"}, "enumerate": {"start"}, "zip": {"strict"}})
KEYS = {"len", "int", "str", "abs", "sum", "min", "max", "tuple"}
KINDS = {"int", "str", "bool", "list", "tuple", "dict"}
PYTHONS_ERRORS = {"KeyError", "ZeroDivisionError", "StopIteration", "ValueError", "LookupError", "IndexError"}


def with_parents(tree):
    """Each node with the one right above it."""
    return [(node, parent) for parent in ast.walk(tree) for node in ast.iter_child_nodes(parent)]


def called(node):
    return node.func.id if isinstance(node, ast.Call) and isinstance(node.func, ast.Name) else None


def method_of(node):
    return node.func.attr if isinstance(node, ast.Call) and isinstance(node.func, ast.Attribute) else None


def is_first(node, parent, names):
    return called(parent) in names and parent.args[:1] == [node]


def walked_late(tree):
    """L23: what is to be walked on the spot, and is not."""
    faults = []
    for node, parent in with_parents(tree):
        if called(node) in WALKED or method_of(node) in WALKED_METHODS:
            alone = called(parent) in ("min", "max") and parent.args == [node]
            joined = method_of(parent) == "join" and isinstance(parent.func.value, ast.Constant)
            behind_in = isinstance(parent, (ast.For, ast.comprehension)) and parent.iter is node
            also = called(parent) in ("enumerate", "zip") and node in parent.args
            if not (alone or joined or behind_in or also or is_first(node, parent, WALKERS)):
                faults.append(node.lineno)
    return faults


def changed_names(body):
    """What is changed by the statements: the values whose index is set, or whose changing method is called."""
    changed = []
    for node in [inner for statement in body for inner in ast.walk(statement)]:
        if isinstance(node, ast.Subscript) and isinstance(node.ctx, ast.Store):
            changed.append(ast.dump(node.value))
        if method_of(node) in CHANGES:
            changed.append(ast.dump(node.func.value))
    return changed


def changed_in_its_walk(tree):
    """L23: a list or dict that is changed by the loop that walks it."""
    faults = []
    for loop in [node for node in ast.walk(tree) if isinstance(node, ast.For)]:
        walked = [loop.iter]
        if called(loop.iter) in ("enumerate", "zip", "reversed"):
            walked = loop.iter.args
        if method_of(loop.iter) in WALKED_METHODS:
            walked = [loop.iter.func.value]
        if set(changed_names(loop.body)) & {ast.dump(each) for each in walked}:
            faults.append(loop.lineno)
    return faults


def sets_kept(tree):
    """L24 and L13: sets that are kept or walked."""
    faults = []
    parents = {id(node): parent for node, parent in with_parents(tree)}
    for node in ast.walk(tree):
        if called(node) in ("set", "frozenset") or isinstance(node, ast.Set):
            top = node
            while isinstance(parents[id(top)], ast.BinOp):
                top = parents[id(top)]
            parent = parents[id(top)]
            asked = isinstance(parent, ast.Compare)
            if not asked and not (is_first(top, parent, {"sorted", "len"}) and parent.keywords == []):
                faults.append(node.lineno)
    return faults


def top_values(tree):
    """The lists and dicts of a file's top, by their names."""
    given = [node for node in tree.body if isinstance(node, ast.Assign)]
    return {node.targets[0].id: node.value for node in given if isinstance(node.value, (ast.List, ast.Dict))}


def is_read(node, parent):
    if isinstance(parent, ast.Subscript):
        return parent.value is node and isinstance(parent.ctx, ast.Load)
    if isinstance(parent, (ast.For, ast.comprehension)):
        return parent.iter is node
    if isinstance(parent, ast.Attribute):
        return parent.attr in READING_METHODS
    return isinstance(parent, ast.Compare) or called(parent) in READERS


def tops_changed(tree):
    """L15: lists and dicts of a file's top that hold another one, are changed, or are handed on."""
    tops = top_values(tree)
    faults = []
    for value in tops.values():
        inner = [node for node in ast.walk(value) if node is not value and isinstance(node, (ast.List, ast.Dict))]
        faults += [node.lineno for node in inner]
    for node, parent in with_parents(tree):
        if isinstance(node, ast.Name) and isinstance(node.ctx, ast.Load) and node.id in tops:
            if not is_read(node, parent):
                faults.append(node.lineno)
    return faults


def classes_handed_on(tree):
    """L18: a class of the file or drawn in that is not called, a base, or beside isinstance, except or raise."""
    names = {node.name for node in tree.body if isinstance(node, ast.ClassDef)}
    drawn = [each.name for node in tree.body if isinstance(node, ast.ImportFrom) for each in node.names]
    names.update(name for name in drawn if name[0].isupper() and not name.isupper())
    faults = []
    for node, parent in with_parents(tree):
        if isinstance(node, ast.Name) and node.id in names:
            calls = isinstance(parent, ast.Call) and (parent.func is node or called(parent) == "isinstance")
            if not calls and not isinstance(parent, (ast.ClassDef, ast.ExceptHandler, ast.Attribute, ast.Tuple)):
                faults.append(node.lineno)
    return faults


def twice_in_a_class(tree):
    """L18: a method that stands twice in its class."""
    faults = []
    for node in [each for each in ast.walk(tree) if isinstance(each, ast.ClassDef)]:
        methods = [each.name for each in node.body if isinstance(each, ast.FunctionDef)]
        if len(set(methods)) < len(methods):
            faults.append(node.lineno)
    return faults


def wrong_handlers(tree):
    """L19: an except without a name, of Exception or TypeError, or of one of Python's that is not listed."""
    faults = []
    for node in [each for each in ast.walk(tree) if isinstance(each, ast.ExceptHandler)]:
        kinds = node.type.elts if isinstance(node.type, ast.Tuple) else [node.type]
        for kind in kinds:
            own = isinstance(kind, ast.Name) and re.match(r"(?:No[A-Z]|SkewError\Z|TooMany\Z|Waits\Z|Broken\Z)", kind.id)
            if not own and not (isinstance(kind, ast.Name) and kind.id in PYTHONS_ERRORS):
                faults.append(node.lineno)
    return faults


def wrong_raises(tree):
    """L19: an error that is not made on the spot."""
    raises = [node for node in ast.walk(tree) if isinstance(node, ast.Raise)]
    return [node.lineno for node in raises if called(node.exc) is None]


def annotations(tree):
    """L21: best none."""
    faults = [node.lineno for node in ast.walk(tree) if isinstance(node, ast.arg) and node.annotation]
    return faults + [node.lineno for node in ast.walk(tree) if isinstance(node, ast.FunctionDef) and node.returns]


def wrong_keywords(tree):
    """L22: keywords at Python's own names and methods, and what stands as a key."""
    faults = []
    for node in [each for each in ast.walk(tree) if isinstance(each, ast.Call) and each.keywords]:
        for word in node.keywords:
            allowed = KEYWORDS.get(called(node), set())
            kept_as = isinstance(word.value, (ast.Lambda, ast.Attribute)) or isinstance(word.value, ast.Name)
            if word.arg not in allowed or (word.arg == "key" and not kept_as):
                faults.append(node.lineno)
            if word.arg in ("reverse", "strict") and not isinstance(word.value, ast.Constant):
                faults.append(node.lineno)
    return faults


def kept_builtins(tree):
    """L22: Python's own functions that are not called where they stand, but as a key, in isinstance or in except."""
    own = WALKED | WALKERS | READERS | KEYS | KINDS | {"isinstance", "set", "frozenset", "ord", "repr", "divmod"}
    faults = []
    for node, parent in with_parents(tree):
        if isinstance(node, ast.Name) and node.id in own:
            calls = isinstance(parent, ast.Call) and parent.func is node
            key = isinstance(parent, ast.keyword) and parent.arg == "key" and node.id in KEYS
            kind = node.id in KINDS and (called(parent) == "isinstance" or isinstance(parent, ast.Tuple))
            if not (calls or key or kind):
                faults.append(node.lineno)
    return faults


def methods_handed_on(tree):
    """L25: a method of Python's own values that is not called where it stands."""
    names = CHANGES | READING_METHODS | {"join", "split", "startswith", "endswith", "partition", "isdigit", "strip"}
    faults = []
    for node, parent in with_parents(tree):
        if isinstance(node, ast.Attribute) and node.attr in names:
            if not (isinstance(parent, ast.Call) and parent.func is node):
                faults.append(node.lineno)
    return faults


def powers(tree):
    """L27: a power whose exponent is not written, from 0 to 64."""
    faults = []
    for node in [each for each in ast.walk(tree) if isinstance(each, ast.BinOp) and isinstance(each.op, ast.Pow)]:
        if not (isinstance(node.right, ast.Constant) and 0 <= node.right.value <= 64):
            faults.append(node.lineno)
    return faults


def inits_that_give(tree):
    """L28: an __init__ that gives something back."""
    faults = []
    for node in [each for each in ast.walk(tree) if isinstance(each, ast.FunctionDef) and each.name == "__init__"]:
        faults += [each.lineno for each in ast.walk(node) if isinstance(each, ast.Return) and each.value is not None]
    return faults


def unpacked(tree):
    """L6: more than one name in an assignment."""
    given = [node for node in ast.walk(tree) if isinstance(node, (ast.Assign, ast.AugAssign))]
    targets = [target for node in given for target in getattr(node, "targets", [])]
    return [target.lineno for target in targets if isinstance(target, (ast.Tuple, ast.List))]


# Each rule with rows that keep to it and rows that don't.
RULES = [
    (walked_late, ["xs = list(zip(a, b))", "for k, v in d.items():\n    f(k)", "t = max(d.values())"],
     ["xs = zip(a, b)", "f(range(3))", "k = d.keys()", "t = max(d.values(), 3)", "t = f(d).join(d.keys())"]),
    (changed_in_its_walk, ["for x in list(d):\n    d.pop(x)", "for x in xs:\n    ys.append(x)"],
     ["for x in xs:\n    xs.append(x)", "for k, v in d.items():\n    d[k] = 1", "for x in self.a:\n    self.a.pop()"]),
    (sets_kept, ["t = x in set(xs)", "n = len(set(xs) - set(ys))", "t = set(xs) == set(ys)"],
     ["t = set(xs)", "for x in set(xs):\n    f(x)", "n = len(xs, set(ys))", "t = list({1, 2})"]),
    (tops_changed, ["XS = [(1, 2)]\ndef f():\n    return list(XS)", "D = {1: 2}\ndef f(k):\n    return D.get(k)"],
     ["XS = [[1]]", "XS = [1]\ndef f():\n    return XS", "D = {}\ndef f():\n    D[1] = 2", "D = {}\ndef f():\n    g(D)"]),
    (classes_handed_on, ["class A:\n    pass\ndef f():\n    return A()"],
     ["class A:\n    pass\nXS = [A]", "class A:\n    pass\ndef f():\n    return A"]),
    (twice_in_a_class, ["class A:\n    def f(self):\n        pass"],
     ["class A:\n    def f(self):\n        pass\n    def f(self):\n        pass"]),
    (wrong_handlers, ["try:\n    f()\nexcept NoDeed:\n    g()", "try:\n    d[1]\nexcept KeyError:\n    g()"],
     ["try:\n    f()\nexcept Exception:\n    g()", "try:\n    f()\nexcept:\n    g()"]),
    (wrong_raises, ["raise NoDeed(a)", "raise NoDeed(a) from e"], ["raise NoDeed", "raise e", "raise"]),
    (annotations, ["def f(a, b=1):\n    pass"], ["def f(a: int):\n    pass", "def f() -> int:\n    pass"]),
    (wrong_keywords, ["xs = sorted(ys, key=f, reverse=True)", "x = max(xs, default=0)"],
     ["xs = sorted(ys, reverse=down)", "x = f(a=1)", "x = int(t, base=10)", "n = t.split(sep=a)"]),
    (kept_builtins, ["t = isinstance(x, (int, str))", "x = max(xs, key=len)"], ["f = len", "x = g(sorted)", "xs = [min]"]),
    (methods_handed_on, ["xs.append(1)"], ["f = xs.append", "g(d.get)"]),
    (powers, ["x = 10 ** 30"], ["x = 2 ** n", "x = 2 ** 65"]),
    (inits_that_give, ["class A:\n    def __init__(self):\n        return"],
     ["class A:\n    def __init__(self):\n        return None"]),
    (unpacked, ["a = 1", "for a, b in c:\n    f(a)"], ["a, b = c", "[a, b] = c"]),
]


class FormsTest(unittest.TestCase):
    def test_the_package_keeps_to_each_rule(self):
        for rule, good, bad in RULES:
            for name in files():
                self.assertEqual(rule(tree_of(name)), [], f"{name}: {rule.__doc__}")

    def test_each_rule_tells_its_faults(self):
        for rule, good, bad in RULES:
            for rows in good:
                self.assertEqual(rule(ast.parse(rows)), [], rows)
            for rows in bad:
                self.assertNotEqual(rule(ast.parse(rows)), [], rows)

    def test_escapes(self):
        for name in files():
            escapes = re.findall(r"\\(.)", text_of(name).replace("\\\\", ""))
            self.assertEqual([sign for sign in escapes if sign not in "nt'\""], [], name)


if __name__ == "__main__":
    unittest.main()
