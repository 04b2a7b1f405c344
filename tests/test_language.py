"""Some rules of LANGUAGE.md, those that are easily seen, over the package's own files."""

import ast
import builtins
import pathlib
import re
import unittest

PACKAGE = pathlib.Path(__file__).resolve().parent.parent / "drawhouse"

BUILT_INS = set(
    "len range enumerate zip min max sum abs sorted reversed int str bool list tuple dict set frozenset isinstance "
    "ord repr any all divmod Exception ValueError TypeError KeyError IndexError LookupError ZeroDivisionError "
    "ArithmeticError OverflowError RuntimeError NotImplementedError AttributeError StopIteration".split()
)
DOUBLE_UNDERSCORES = {"__init__", "__eq__", "__repr__", "__str__", "__len__"}
METHODS_OF_PYTHON = set(
    "append clear copy count endswith extend find get index insert isalnum isalpha isdigit islower isspace isupper "
    "items join keys ljust lower lstrip partition pop remove replace reverse rfind rjust rpartition rsplit rstrip "
    "setdefault split splitlines startswith strip update upper values zfill bit_length".split()
)
WORDS_THAT_STAND_NOWHERE = re.compile(
    r"\b(type|typing|typing_extensions|enum|Enum|IntEnum|StrEnum|Flag|IntFlag|Generic|Protocol|ABC|ABCMeta|namedtuple"
    r"|NamedTuple|TypedDict|TYPE_CHECKING|abstractmethod)\b|dataclass|overload|contextmanager"
)
NODES_THAT_STAND_NOWHERE = (
    ast.With, ast.Match, ast.Delete, ast.Global, ast.Nonlocal, ast.Assert, ast.Yield, ast.YieldFrom, ast.Await,
    ast.AsyncFunctionDef, ast.AsyncFor, ast.AsyncWith, ast.SetComp, ast.DictComp, ast.GeneratorExp, ast.NamedExpr,
    ast.Starred, ast.Div, ast.Import, ast.AnnAssign,
)
WALKED_AT_ONCE = {"zip", "enumerate", "reversed", "range"}
WALKED_AT_ONCE_OF_DICTS = {"items", "keys", "values"}
WALKERS = {"list", "tuple", "dict", "sorted", "sum", "any", "all", "enumerate", "zip", "min", "max"}
VALUES_LIKE_METHODS = set("count index title find get join lower upper split strip copy add".split())


def files():
    return sorted(PACKAGE.iterdir())


def modules():
    return [(path, path.read_text(encoding="utf-8")) for path in files() if path.suffix == ".py"]


def faults_of_a_name(word):
    if word.startswith("_") and word not in DOUBLE_UNDERSCORES:
        return [f"the name {word} begins with an underscore"]
    return []


def faults_of_a_def(node):
    faults = faults_of_a_name(node.name)
    if node.end_lineno - node.lineno + 1 > 40:
        faults.append(f"{node.name} has more than 40 rows")
    if node.decorator_list or node.args.vararg or node.args.kwarg or node.args.kwonlyargs or node.args.posonlyargs:
        faults.append(f"{node.name} has a decorator or parameters that aren't plain")
    for parameter in node.args.args:
        if hasattr(builtins, parameter.arg):
            faults.append(f"the parameter {parameter.arg} is a name of Python's own")
    return faults


def faults_of_a_read_name(node):
    if isinstance(node.ctx, ast.Store):
        return [f"{node.id} is a name of Python's own"] if hasattr(builtins, node.id) else faults_of_a_name(node.id)
    if hasattr(builtins, node.id) and node.id not in BUILT_INS:
        return [f"the built-in {node.id}"]
    return []


def faults_of_an_import(node):
    own = node.level == 0 and (node.module or "").startswith("drawhouse.")
    plain = all(alias.name != "*" and alias.asname is None for alias in node.names)
    return [] if own and plain else ["an import that isn't of the package's own modules"]


def faults_of_an_expression(node):
    if isinstance(node, ast.FormattedValue) and (node.format_spec or not isinstance(node.value, ast.Name)):
        return ["an f-string with more than a plain name"]
    if isinstance(node, ast.ListComp) and (len(node.generators) > 1 or len(node.generators[0].ifs) > 1):
        return ["a comprehension with more than one for and one if"]
    if isinstance(node, ast.Compare) and any(isinstance(one, (ast.Is, ast.IsNot)) for one in node.ops):
        sides = [node.left] + node.comparators
        if not any(isinstance(one, ast.Constant) and repr(one.value) in ("None", "True", "False") for one in sides):
            return ["an is beside no None, True or False"]
    return []


def faults_of_a_node(node):
    if isinstance(node, NODES_THAT_STAND_NOWHERE):
        return [f"a {type(node).__name__}"]
    if isinstance(node, ast.FunctionDef):
        return faults_of_a_def(node)
    if isinstance(node, ast.ClassDef) and (len(node.bases) > 1 or node.decorator_list or node.keywords):
        return [f"the class {node.name} isn't plain"]
    if isinstance(node, ast.Name):
        return faults_of_a_read_name(node)
    if isinstance(node, ast.ImportFrom):
        return faults_of_an_import(node)
    if isinstance(node, ast.Constant) and isinstance(node.value, (float, bytes, complex)):
        return [f"the value {node.value!r}"]
    if isinstance(node, ast.Assign) and len(node.targets) > 1:
        return ["more than one target"]
    if isinstance(node, (ast.For, ast.While)) and node.orelse:
        return ["an else behind a loop"]
    if isinstance(node, ast.Try) and node.finalbody:
        return ["a finally"]
    if isinstance(node, ast.Raise) and not isinstance(node.exc, ast.Call):
        return ["an error that isn't made on the spot"]
    if isinstance(node, ast.Constant) and isinstance(node.value, str) and "%" in node.value:
        return ["a text with a percent sign"]
    if isinstance(node, ast.Attribute) and node.attr.startswith("_"):
        return faults_of_a_name(node.attr)
    return faults_of_an_expression(node)


def names_given_twice(tree):
    """Names of classes and imports of a file that a parameter or a local of it has too."""
    top, within = set(), set()
    for node in ast.walk(tree):
        if isinstance(node, ast.ImportFrom):
            top |= {alias.name for alias in node.names}
        elif isinstance(node, ast.ClassDef):
            top.add(node.name)
        elif isinstance(node, ast.arg):
            within.add(node.arg)
        elif isinstance(node, ast.Name) and isinstance(node.ctx, ast.Store):
            within.add(node.id)
    return sorted(top & within)


def drawn_from(tree):
    return {node.module.rpartition(".")[2] for node in ast.walk(tree) if isinstance(node, ast.ImportFrom)}


def in_rings(drawn):
    """The files of a dict, each with the files that it draws from, that come to themselves."""
    told = []
    for start in sorted(drawn):
        seen, ahead = set(), set(drawn[start])
        while ahead:
            one = ahead.pop()
            if one not in seen:
                seen.add(one)
                ahead |= drawn.get(one, set())
        if start in seen:
            told.append(start)
    return told


def methods_of_others(tree):
    told = []
    for node in ast.walk(tree):
        if isinstance(node, ast.Call) and isinstance(node.func, ast.Attribute):
            word = node.func.attr
            known = [value for value in ("", [], {}, 0, ()) if hasattr(value, word)]
            if known and word not in METHODS_OF_PYTHON | DOUBLE_UNDERSCORES:
                told.append(f"{node.lineno}: the method {word}")
    return told


def is_walk(node):
    if not isinstance(node, ast.Call):
        return False
    if isinstance(node.func, ast.Name):
        return node.func.id in WALKED_AT_ONCE
    return isinstance(node.func, ast.Attribute) and node.func.attr in WALKED_AT_ONCE_OF_DICTS


def walked_on_the_spot(tree):
    """What stands where L23 has things walked."""
    places = []
    for node in ast.walk(tree):
        if isinstance(node, (ast.For, ast.comprehension)):
            places.append(node.iter)
        elif isinstance(node, ast.Call) and isinstance(node.func, ast.Name) and node.func.id in WALKERS:
            places.extend(node.args if node.func.id == "zip" else node.args[:1])
    return places


def walks_that_are_kept(tree):
    spots = [id(node) for node in walked_on_the_spot(tree)]
    return [node.lineno for node in ast.walk(tree) if is_walk(node) and id(node) not in spots]


def changed_while_walked(tree):
    """Loops with a row that changes, by a method or an index, what the loop walks."""
    told = []
    for loop in [node for node in ast.walk(tree) if isinstance(node, ast.For)]:
        walked = {ast.unparse(node) for node in ast.walk(loop.iter) if isinstance(node, (ast.Name, ast.Attribute))}
        for node in [node for row in loop.body for node in ast.walk(row)]:
            change = isinstance(node, ast.Call) and isinstance(node.func, ast.Attribute) and node.func.attr in (
                "append", "clear", "extend", "insert", "pop", "remove", "reverse", "setdefault", "update")
            if change and ast.unparse(node.func.value) in walked:
                told.append(node.lineno)
            stored = isinstance(node, ast.Subscript) and isinstance(node.ctx, ast.Store)
            if stored and ast.unparse(node.value) in walked:
                told.append(node.lineno)
    return told


def classes_handed_on(tree, classes):
    """Places at which a class stands but isn't called, a base, or beside isinstance, except or raise."""
    good = set()
    for node in ast.walk(tree):
        if isinstance(node, ast.Call):
            good.add(id(node.func))
            # Base.__init__(self, ..) calls the base's, as L28 has it.
            if isinstance(node.func, ast.Attribute) and node.func.attr == "__init__":
                good.add(id(node.func.value))
            if isinstance(node.func, ast.Name) and node.func.id == "isinstance":
                good |= {id(one) for one in ast.walk(node.args[1])}
        elif isinstance(node, ast.ClassDef):
            good |= {id(base) for base in node.bases}
        elif isinstance(node, ast.ExceptHandler) and node.type is not None:
            good |= {id(one) for one in ast.walk(node.type)}
    named = [node for node in ast.walk(tree) if isinstance(node, ast.Name) and node.id in classes]
    return [f"{node.lineno}: {node.id}" for node in named if id(node) not in good]


def classes_of_the_package():
    trees = [ast.parse(text) for _, text in modules()]
    return {node.name for tree in trees for node in ast.walk(tree) if isinstance(node, ast.ClassDef)}


def values_named_like_methods(tree):
    told = []
    for node in ast.walk(tree):
        if isinstance(node, ast.Attribute) and isinstance(node.ctx, ast.Store):
            known = [value for value in ("", 0, [], {}, set(), b"", ()) if hasattr(value, node.attr)]
            if known and node.attr not in VALUES_LIKE_METHODS:
                told.append(f"{node.lineno}: the value {node.attr}")
    return told


class Files(unittest.TestCase):
    def test_there_are_files(self):
        self.assertIn("__init__.py", [path.name for path in files()])

    def test_names_of_files(self):
        for path in files():
            if path.name != "__pycache__":
                self.assertRegex(path.name, r"\A[a-z0-9_]+\.py\Z")

    def test_signs_and_lengths(self):
        for path, text in modules():
            rows = text.split("\n")
            self.assertRegex(text, r"\A[ -~\n]*\Z", path.name)
            self.assertLessEqual(len(rows), 401, path.name)
            self.assertLessEqual(max(len(row) for row in rows), 120, path.name)
            self.assertIsNone(WORDS_THAT_STAND_NOWHERE.search(text), path.name)


class Code(unittest.TestCase):
    def test_each_node(self):
        for path, text in modules():
            for node in ast.walk(ast.parse(text)):
                for fault in faults_of_a_node(node):
                    self.fail(f"{path.name}: {getattr(node, 'lineno', 0)}: {fault}")

    def test_methods_of_pythons_own_values(self):
        for path, text in modules():
            self.assertEqual(methods_of_others(ast.parse(text)), [], path.name)

    def test_no_name_of_a_class_or_an_import_is_given_twice(self):
        for path, text in modules():
            self.assertEqual(names_given_twice(ast.parse(text)), [], path.name)

    def test_no_two_files_draw_from_one_another(self):
        self.assertEqual(in_rings({path.stem: drawn_from(ast.parse(text)) for path, text in modules()}), [])

    def test_a_name_is_a_method_or_a_value_but_not_both(self):
        methods, values = set(), set()
        for _, text in modules():
            for node in ast.walk(ast.parse(text)):
                if isinstance(node, ast.ClassDef):
                    methods |= {one.name for one in node.body if isinstance(one, ast.FunctionDef)}
                if isinstance(node, ast.Attribute) and isinstance(node.ctx, ast.Store):
                    values.add(node.attr)
        self.assertEqual(methods & values, set())

    def test_walks_are_walked_at_once(self):
        for path, text in modules():
            self.assertEqual(walks_that_are_kept(ast.parse(text)), [], path.name)

    def test_what_a_loop_walks_is_not_changed_in_it(self):
        for path, text in modules():
            self.assertEqual(changed_while_walked(ast.parse(text)), [], path.name)

    def test_classes_are_not_handed_on(self):
        for path, text in modules():
            self.assertEqual(classes_handed_on(ast.parse(text), classes_of_the_package()), [], path.name)

    def test_values_are_not_named_like_methods_of_pythons_own(self):
        for path, text in modules():
            self.assertEqual(values_named_like_methods(ast.parse(text)), [], path.name)


class TheChecksThemselves(unittest.TestCase):
    OUTSIDE = [
        "import re", "from os import path", "from .words import is_name", "from drawhouse.words import *",
        "x = 1.5", "x = b''", "x = y = 1", "x = 1 / 2", "assert x", "del x", "x = {a for a in b}", "x = f(*a)",
        "def f(*a): pass", "def f(list): pass", "def _f(): pass", "_x = 1", "list = 1", "x = open(y)", "x = chr(1)",
        "for a in b:\n    pass\nelse:\n    pass", "x: int = 1", "class A(B, C): pass", "x.__dict__",
        "x = f'{a.b}'", "x = f'{a:3}'", "x = [a for a in b for c in d]", "x = [a for a in b if c if d]", "x = a is b",
        "x = a is 1", "raise e", "raise A", "raise", "x = '100%'",
    ]

    def test_what_is_outside_is_found(self):
        for text in self.OUTSIDE:
            faults = [fault for node in ast.walk(ast.parse(text)) for fault in faults_of_a_node(node)]
            self.assertTrue(faults, text)

    def test_methods_that_are_outside_are_found(self):
        for text in ("x.sort()", "x.format(1)", "x.encode()", "x.popitem()", "x.title()"):
            self.assertTrue(methods_of_others(ast.parse(text)), text)

    def test_what_is_inside_is_not_found(self):
        for text in ("x = f'{a} {b!r}'", "x = [a for a in b if c]", "x = a is None", "x = a is not True", "x = a == b"):
            faults = [fault for node in ast.walk(ast.parse(text)) for fault in faults_of_a_node(node)]
            self.assertEqual(faults, [], text)

    def test_names_given_twice_are_found(self):
        for text in ("from a import b\ndef f(b): pass", "class A: pass\ndef f():\n    A = 1"):
            self.assertTrue(names_given_twice(ast.parse(text)), text)

    def test_walks_that_are_kept_are_found(self):
        for text in ("x = zip(a, b)", "x = d.items()", "f(range(3))", "x = [range(3)]", "x = sum([], range(3))"):
            self.assertTrue(walks_that_are_kept(ast.parse(text)), text)
        for text in ("x = list(d.items())", "for a in range(3): pass", "x = [a for a in reversed(b)]",
                     "for a in enumerate(zip(b, reversed(c))): pass"):
            self.assertEqual(walks_that_are_kept(ast.parse(text)), [], text)

    def test_changes_of_what_is_walked_are_found(self):
        for text in ("for a in b:\n    b.append(a)", "for a, c in enumerate(b):\n    b[a] = 1",
                     "for a in self.b:\n    if a:\n        self.b.pop()"):
            self.assertTrue(changed_while_walked(ast.parse(text)), text)
        for text in ("for a in b:\n    c.append(a)", "for a in self.b:\n    self.c[a] = 1"):
            self.assertEqual(changed_while_walked(ast.parse(text)), [], text)

    def test_classes_that_are_handed_on_are_found(self):
        for text in ("x = [A, B]", "f(A)", "x = A if b else C", "return_it = A"):
            self.assertTrue(classes_handed_on(ast.parse(text), {"A"}), text)
        for text in ("x = A(1)", "class B(A): pass", "x = isinstance(y, (A, B))", "raise A(1)",
                     "try:\n    f()\nexcept A:\n    pass"):
            self.assertEqual(classes_handed_on(ast.parse(text), {"A"}), [], text)

    def test_values_that_are_named_like_methods_are_found(self):
        for text in ("x.items = 1", "x.real = 1", "self.sort = 1", "self.pop = 1"):
            self.assertTrue(values_named_like_methods(ast.parse(text)), text)
        for text in ("x.house = 1", "self.count = 1"):
            self.assertEqual(values_named_like_methods(ast.parse(text)), [], text)

    def test_rings_of_files_are_found(self):
        drawn = {"a": {"b"}, "b": {"c"}, "c": {"b"}, "d": {"d"}, "e": {"a", "f"}, "f": set()}
        self.assertEqual(in_rings(drawn), ["b", "c", "d"])


if __name__ == "__main__":
    unittest.main()
