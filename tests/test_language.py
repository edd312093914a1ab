"""The form of the package's own files: the part of Python that they keep to, as far as a reading can tell."""

import ast
import builtins
import pathlib
import re
import unittest
import warnings

PACKAGE = pathlib.Path(__file__).resolve().parent.parent / "nolocktree"

OWN_NAMES = set(
    "len range enumerate zip min max sum abs sorted reversed int str bool bytes list tuple dict set frozenset "
    "isinstance ord repr any all divmod Exception ValueError TypeError KeyError IndexError LookupError "
    "ZeroDivisionError ArithmeticError OverflowError RuntimeError NotImplementedError AttributeError "
    "StopIteration".split())

NODES = set(
    "Module Expr Constant ImportFrom alias FunctionDef arguments arg Return Assign AugAssign AnnAssign Name Load "
    "Store Del Delete ClassDef Attribute Subscript Slice Call keyword If IfExp While For Break Continue Pass Raise "
    "Try ExceptHandler Assert Lambda List Tuple Dict Set ListComp DictComp SetComp comprehension Starred JoinedStr "
    "FormattedValue Compare Eq NotEq Lt LtE Gt GtE Is IsNot In NotIn BoolOp And Or UnaryOp Not USub Invert BinOp "
    "Add Sub Mult FloorDiv Mod Pow LShift RShift BitAnd BitOr BitXor".split())

METHODS_OF_PYTHON = set(
    "append clear copy count endswith extend find get index insert isalnum isalpha isdigit islower isspace isupper "
    "items join keys ljust lower lstrip partition pop remove replace reverse rfind rjust rpartition rsplit rstrip "
    "setdefault split splitlines startswith strip update upper values zfill bit_length title capitalize swapcase "
    "casefold center expandtabs removeprefix removesuffix rindex isascii isdecimal isnumeric istitle isidentifier "
    "isprintable encode decode hex fromhex to_bytes from_bytes translate maketrans sort add discard".split())

NO_WORDS = re.compile(
    r"\b(type|typing|typing_extensions|enum|Enum|IntEnum|StrEnum|Flag|IntFlag|Generic|Protocol|ABC|ABCMeta|namedtuple"
    r"|NamedTuple|TypedDict|TYPE_CHECKING|abstractmethod|register|mro|elements|open|input|version_info|with_traceback"
    r"|add_note)\b|dataclass|overload|contextmanager")

CHANGING = set("append clear extend insert pop remove reverse setdefault update sort".split())

# What is told by these is walked where it stands: by a loop, or as the first thing of one of the takers.
WALKED_AT_ONCE = {"zip", "enumerate", "reversed", "range", "items", "keys", "values"}
TAKERS = {"list", "tuple", "dict", "sorted", "sum", "any", "all", "enumerate", "zip", "bytes", "min", "max", "join"}

DUNDERS = {"__init__", "__eq__", "__repr__", "__str__", "__len__"}


def sources():
    """Each file of the package with its text and its tree."""
    told = []
    for path in sorted(PACKAGE.rglob("*.py")):
        text = path.read_text(encoding="utf-8")
        told.append((path.name, text, ast.parse(text)))
    return told


def nodes(kind):
    """Each node of the kind in the package, with its file's name."""
    return [(name, node) for name, text, tree in sources() for node in ast.walk(tree) if isinstance(node, kind)]


def bound_names(tree):
    """Names that the file gives below its top: parameters and locals."""
    told = [node.arg for node in ast.walk(tree) if isinstance(node, ast.arg)]
    for top in tree.body:
        if isinstance(top, (ast.FunctionDef, ast.ClassDef)):
            names = [node for node in ast.walk(top) if isinstance(node, ast.Name)]
            told += [node.id for node in names if isinstance(node.ctx, ast.Store)]
    return told


def methods_and_values():
    """The names of all methods of the package's classes, and of all values that its objects are given."""
    methods, values = set(), set()
    for name, node in nodes(ast.ClassDef):
        methods |= {one.name for one in node.body if isinstance(one, ast.FunctionDef)} - DUNDERS
    for name, node in nodes(ast.Attribute):
        if isinstance(node.ctx, ast.Store):
            values.add(node.attr)
    return methods, values


def own_arities():
    """For each name of a def, a class or a method of the package, how many things such may be handed."""
    told = {}
    for name, text, tree in sources():
        for node in tree.body:
            if isinstance(node, ast.FunctionDef):
                told.setdefault(node.name, set()).add(len(node.args.args))
            elif isinstance(node, ast.ClassDef):
                for one in node.body[1:]:
                    key = node.name if one.name == "__init__" else one.name
                    told.setdefault(key, set()).add(len(one.args.args) - 1)
    return told


def walked(node):
    """The names of what a loop or a comprehension walks, as they are written, itself and through a call."""
    told = {ast.unparse(node)}
    if isinstance(node, ast.Call):
        name = node.func.attr if isinstance(node.func, ast.Attribute) else node.func.id
        if name in ("items", "keys", "values"):
            told.add(ast.unparse(node.func.value))
        if name in ("enumerate", "zip", "reversed"):
            told |= {ast.unparse(one) for one in node.args}
    return told


def changed(rows):
    """What the rows change by a method, an item or a del, as it is written."""
    told = set()
    for node in [one for row in rows for one in ast.walk(row)]:
        if isinstance(node, ast.Call) and isinstance(node.func, ast.Attribute) and node.func.attr in CHANGING:
            told.add(ast.unparse(node.func.value))
        if isinstance(node, ast.Subscript) and not isinstance(node.ctx, ast.Load):
            told.add(ast.unparse(node.value))
    return told


class FileTests(unittest.TestCase):
    def test_only_plain_files_lie_in_the_package(self):
        for path in PACKAGE.rglob("*"):
            if "__pycache__" not in path.parts:
                self.assertRegex(path.name, r"^([a-z][a-z0-9_]*|__init__|__main__)\.py$")
        self.assertTrue((PACKAGE / "__init__.py").is_file())

    def test_signs_and_sizes(self):
        for name, text, tree in sources():
            self.assertRegex(text, r"\A[ -~\n]*\Z", name)
            rows = text.split("\n")
            self.assertLessEqual(len(rows), 401, name)
            self.assertLessEqual(max(len(row) for row in rows), 120, name)
        for name, node in nodes(ast.FunctionDef):
            self.assertLessEqual(node.end_lineno - node.lineno + 1, 40, (name, node.name))

    def test_words_that_stand_nowhere(self):
        for name, text, tree in sources():
            self.assertIsNone(NO_WORDS.search(text), name)

    def test_reading_gives_no_warning(self):
        with warnings.catch_warnings():
            warnings.simplefilter("error")
            for name, text, tree in sources():
                compile(text, name, "exec")


class RowTests(unittest.TestCase):
    def test_only_told_forms(self):
        for name, node in nodes(ast.AST):
            self.assertIn(type(node).__name__, NODES, (name, getattr(node, "lineno", None)))

    def test_the_top_of_a_file(self):
        for name, text, tree in sources():
            self.assertIsNotNone(ast.get_docstring(tree), name)
            for node in tree.body[1:]:
                self.assertIsInstance(node, (ast.ImportFrom, ast.FunctionDef, ast.ClassDef, ast.Assign), name)

    def test_values_are_plain(self):
        for name, node in nodes(ast.Constant):
            self.assertIn(type(node.value), (int, str, bytes, bool, type(None)), (name, node.lineno))
            if isinstance(node.value, str):
                self.assertNotIn("%", node.value, (name, node.lineno))

    def test_is_stands_beside_none_true_and_false(self):
        for name, node in nodes(ast.Compare):
            for sign, right in zip(node.ops, node.comparators):
                if isinstance(sign, (ast.Is, ast.IsNot)):
                    self.assertIsInstance(right, ast.Constant, (name, node.lineno))
                    self.assertIn(right.value, (None, True, False), (name, node.lineno))

    def test_functions_are_plain(self):
        for name, node in nodes(ast.FunctionDef):
            self.assertEqual(node.decorator_list, [], (name, node.name))
            self.assertIsNone(node.args.vararg)
            self.assertIsNone(node.args.kwarg)
            self.assertEqual(node.args.posonlyargs, [])

    def test_classes_are_plain(self):
        for name, node in nodes(ast.ClassDef):
            self.assertEqual(node.decorator_list, [], (name, node.name))
            self.assertLessEqual(len(node.bases), 1)
            self.assertEqual(node.keywords, [])
            self.assertIsNotNone(ast.get_docstring(node), (name, node.name))
            methods = [one.name for one in node.body[1:] if isinstance(one, ast.FunctionDef)]
            self.assertEqual(len(methods), len(node.body) - 1, (name, node.name))
            self.assertEqual(len(methods), len(set(methods)), (name, node.name))


class CallTests(unittest.TestCase):
    def test_own_defs_are_handed_as_many_things_as_they_take(self):
        told = own_arities()
        for name, node in nodes(ast.Call):
            called = node.func.attr if isinstance(node.func, ast.Attribute) else node.func.id
            if called in told and called not in METHODS_OF_PYTHON:
                self.assertIn(len(node.args), told[called], (name, node.lineno))

    def test_no_keywords_but_at_sorted_and_its_like(self):
        for name, node in nodes(ast.Call):
            if node.keywords:
                self.assertIn(getattr(node.func, "id", None), ("sorted", "min", "max", "sum", "enumerate", "zip"),
                              (name, node.lineno))

    def test_what_is_walked_at_once_is_not_kept(self):
        fine = set()
        for name, text, tree in sources():
            for node in ast.walk(tree):
                if isinstance(node, (ast.For, ast.comprehension)):
                    fine.add((name, ast.unparse(node.iter), node.iter.lineno))
                if isinstance(node, ast.Call) and node.args:
                    called = node.func.attr if isinstance(node.func, ast.Attribute) else node.func.id
                    if called in TAKERS:
                        fine.add((name, ast.unparse(node.args[0]), node.args[0].lineno))
            for node in ast.walk(tree):
                if isinstance(node, ast.Call):
                    called = node.func.attr if isinstance(node.func, ast.Attribute) else node.func.id
                    if called in WALKED_AT_ONCE:
                        self.assertIn((name, ast.unparse(node), node.lineno), fine)

    def test_what_a_loop_walks_is_not_changed_in_it(self):
        for name, node in nodes(ast.For):
            self.assertEqual(walked(node.iter) & changed(node.body), set(), (name, node.lineno))

    def test_raise_makes_its_error_on_the_spot(self):
        for name, node in nodes(ast.Raise):
            self.assertIsInstance(node.exc, ast.Call, (name, node.lineno))
            self.assertIsInstance(node.exc.func, ast.Name, (name, node.lineno))

    def test_sets_are_not_walked(self):
        for name, node in nodes((ast.For, ast.comprehension)):
            self.assertNotIsInstance(node.iter, (ast.Set, ast.SetComp), name)
            if isinstance(node.iter, ast.Call) and isinstance(node.iter.func, ast.Name):
                self.assertNotEqual(node.iter.func.id, "set", name)


class NameTests(unittest.TestCase):
    def test_imports_are_own_and_from_the_defining_file(self):
        defined = {}
        for name, text, tree in sources():
            defined["nolocktree." + name[:-3]] = {getattr(node, "name", None) for node in tree.body} | {
                target.id for node in tree.body if isinstance(node, ast.Assign) for target in node.targets}
        for name, node in nodes(ast.ImportFrom):
            self.assertEqual(node.level, 0, name)
            self.assertIn(node.module, defined, name)
            for one in node.names:
                self.assertIn(one.name, defined[node.module], name)
                self.assertIsNone(one.asname, name)

    def test_no_files_draw_from_one_another_in_a_ring(self):
        drawn = {name[:-3]: {node.module.split(".")[1] for node in tree.body if isinstance(node, ast.ImportFrom)}
                 for name, text, tree in sources()}
        while drawn:
            ready = [name for name, others in drawn.items() if not others & set(drawn)]
            self.assertNotEqual(ready, [], drawn)
            for name in ready:
                del drawn[name]

    def test_each_drawn_name_is_used(self):
        for name, text, tree in sources():
            used = {node.id for node in ast.walk(tree) if isinstance(node, ast.Name)}
            for node in tree.body:
                if isinstance(node, ast.ImportFrom):
                    self.assertLessEqual({one.name for one in node.names}, used, name)

    def test_names_are_plain_words(self):
        plain = re.compile(r"^[A-Za-z][A-Za-z0-9_]*$")
        for name, text, tree in sources():
            for one in bound_names(tree):
                self.assertRegex(one, plain, name)
        for name, node in nodes((ast.FunctionDef, ast.ClassDef)):
            if node.name not in DUNDERS:
                self.assertRegex(node.name, plain, name)
        for name, node in nodes(ast.Attribute):
            if node.attr != "__init__":
                self.assertRegex(node.attr, plain, name)

    def test_only_told_names_of_pythons_own(self):
        for name, node in nodes(ast.Name):
            if hasattr(builtins, node.id):
                self.assertIn(node.id, OWN_NAMES, (name, node.lineno))

    def test_nothing_is_called_like_pythons_own_or_the_files_own(self):
        for name, text, tree in sources():
            taken = {node.name for node in tree.body if isinstance(node, ast.ClassDef)}
            for node in tree.body:
                if isinstance(node, ast.ImportFrom):
                    taken |= {one.name for one in node.names}
            for one in bound_names(tree):
                self.assertNotIn(one, taken, name)
                self.assertFalse(hasattr(builtins, one), (name, one))

    def test_no_name_is_both_method_and_value(self):
        methods, values = methods_and_values()
        self.assertEqual(methods & values, set())

    def test_each_asked_attribute_is_given_by_a_class_or_is_pythons(self):
        methods, values = methods_and_values()
        for name, node in nodes(ast.Attribute):
            self.assertIn(node.attr, methods | values | METHODS_OF_PYTHON | {"__init__"}, (name, node.lineno))

    def test_own_methods_and_values_bear_free_names(self):
        methods, values = methods_and_values()
        taken = {one for kind in (str, int, list, tuple, dict, set, bytes) for one in dir(kind)}
        self.assertEqual((methods & taken) - METHODS_OF_PYTHON, set())
        self.assertLessEqual(
            values & taken, set("count index title find get join lower upper split strip copy add".split()))


if __name__ == "__main__":
    unittest.main()
