"""The rules of ../shared/LANGUAGE.md that can be looked up row by row; the others are kept by reading."""

import ast
import builtins
import os
import re
import unittest
import warnings

FOLDER = os.path.join(os.path.dirname(os.path.dirname(os.path.abspath(__file__))), "coolbook")
BUILTINS = set(
    "len range enumerate zip min max sum abs sorted reversed int str bool bytes list tuple dict set frozenset "
    "isinstance ord repr any all divmod super property staticmethod classmethod object float "
    "Exception ValueError TypeError KeyError IndexError LookupError ZeroDivisionError ArithmeticError "
    "OverflowError RuntimeError NotImplementedError AttributeError StopIteration NotImplemented".split()
)
METHODS = set(
    "append clear copy count endswith extend find get index insert isalnum isalpha isdigit islower isspace isupper "
    "items join keys ljust lower lstrip partition pop remove replace reverse rfind rjust rpartition rsplit rstrip "
    "setdefault split splitlines startswith strip update upper values zfill bit_length "
    "title capitalize swapcase casefold center expandtabs removeprefix removesuffix rindex isascii isdecimal "
    "isnumeric istitle isidentifier isprintable translate maketrans encode decode hex from_bytes sort add discard "
    "__init__".split()
)
STATEMENTS = (
    ast.FunctionDef, ast.ClassDef, ast.Return, ast.Delete, ast.Assign, ast.AugAssign, ast.AnnAssign, ast.For,
    ast.While, ast.If, ast.With, ast.Match, ast.Raise, ast.Try, ast.Assert, ast.ImportFrom, ast.Nonlocal, ast.Expr,
    ast.Pass, ast.Break, ast.Continue,
)
BARRED_WORDS = re.compile(
    r"\b(type|typing|typing_extensions|enum|Enum|IntEnum|StrEnum|Flag|IntFlag|Generic|Protocol|ABC|ABCMeta|"
    r"namedtuple|NamedTuple|TypedDict|TYPE_CHECKING|abstractmethod)\b|dataclass|overload|contextmanager"
)


def files():
    return sorted(name for name in os.listdir(FOLDER) if name != "__pycache__")


def text_of(name):
    with open(os.path.join(FOLDER, name), encoding="utf-8", newline="") as held:
        return held.read()


def nodes():
    for name in files():
        for node in ast.walk(ast.parse(text_of(name))):
            yield f"{name}:{getattr(node, 'lineno', 0)}", node


def names_bound(node):
    if isinstance(node, (ast.FunctionDef, ast.ClassDef)):
        return [node.name]
    if isinstance(node, ast.arg):
        return [node.arg]
    if isinstance(node, ast.Name) and isinstance(node.ctx, ast.Store):
        return [node.id]
    return []


def names_of_file(name):
    """All names that a file binds at module level, but its imports."""
    return [one for row in ast.parse(text_of(name)).body
            for node in ([row] if isinstance(row, (ast.FunctionDef, ast.ClassDef)) else ast.walk(row))
            for one in names_bound(node)]


def names_imported(name):
    return [row.asname or row.name for node in ast.walk(ast.parse(text_of(name))) if isinstance(node, ast.ImportFrom)
            for row in node.names]


def imported_by(name):
    return {node.module.removeprefix("coolbook.") + ".py" for node in ast.walk(ast.parse(text_of(name)))
            if isinstance(node, ast.ImportFrom) and node.module != "__future__"}


def own_attributes():
    return {node.attr for place, node in nodes() if isinstance(node, ast.Attribute) and isinstance(node.ctx, ast.Store)}


def plain_kinds():
    """Objects whose names own attributes may not have, but those of a short list."""
    return ("", 0, [], {}, set(), b"")


def own_methods():
    return {row.name for place, node in nodes() if isinstance(node, ast.ClassDef)
            for row in node.body if isinstance(row, ast.FunctionDef)}


class Files(unittest.TestCase):
    def test_only_plain_files(self):
        self.assertIn("__init__.py", files())
        for name in files():
            self.assertRegex(name, r"^[a-z0-9_]+\.py$")

    def test_signs_and_sizes(self):
        for name in files():
            text = text_of(name)
            rows = text.split("\n")
            self.assertEqual([sign for sign in text if not (" " <= sign <= "~" or sign == "\n")], [], name)
            self.assertLessEqual(len(rows) - 1, 400, name)
            self.assertLessEqual(max(len(row) for row in rows), 120, name)
            self.assertNotIn("%", text, name)

    def test_barred_words(self):
        for name in files():
            self.assertIsNone(BARRED_WORDS.search(text_of(name)), name)

    def test_python_gives_no_warning(self):
        with warnings.catch_warnings():
            warnings.simplefilter("error")
            for name in files():
                compile(text_of(name), name, "exec")


class Rows(unittest.TestCase):
    def test_functions_are_short(self):
        for place, node in nodes():
            if isinstance(node, ast.FunctionDef):
                self.assertLessEqual(node.end_lineno - node.lineno + 1, 40, place)

    def test_statements(self):
        for place, node in nodes():
            if isinstance(node, ast.stmt):
                self.assertIsInstance(node, STATEMENTS, place)
            if isinstance(node, ast.Expr):
                docstring = isinstance(node.value, ast.Constant) and isinstance(node.value.value, str)
                self.assertTrue(docstring or isinstance(node.value, (ast.Call, ast.Yield, ast.YieldFrom)), place)

    def test_imports_are_of_the_package(self):
        for place, node in nodes():
            if isinstance(node, ast.ImportFrom):
                self.assertEqual(node.level, 0, place)
                self.assertTrue(node.module == "__future__" or node.module.startswith("coolbook."), place)
                self.assertNotIn("*", [row.name for row in node.names], place)

    def test_imports_name_the_file_that_defines_the_name(self):
        for place, node in nodes():
            if isinstance(node, ast.ImportFrom) and node.module != "__future__":
                defined = names_of_file(node.module.removeprefix("coolbook.") + ".py")
                for row in node.names:
                    self.assertIn(row.name, defined, place)

    def test_no_two_files_import_from_each_other(self):
        reached = {name: imported_by(name) for name in files()}
        for _ in files():
            reached = {name: found.union(*(reached[other] for other in found)) for name, found in reached.items()}
        for name, found in reached.items():
            self.assertNotIn(name, found)

    def test_a_name_is_bound_once_in_a_file(self):
        for name in files():
            bound = names_of_file(name) + names_imported(name)
            self.assertEqual(sorted(bound), sorted(set(bound)), name)

    def test_no_local_has_the_name_of_a_class_or_an_import(self):
        for name in files():
            tree = ast.parse(text_of(name))
            taken = names_imported(name) + [row.name for row in tree.body if isinstance(row, ast.ClassDef)]
            for function in ast.walk(tree):
                if isinstance(function, ast.FunctionDef):
                    for node in ast.walk(function):
                        if node is not function:
                            bound = [one for one in names_bound(node) if one in taken]
                            self.assertEqual(bound, [], (name, function.name))

    def test_every_import_is_used(self):
        for name in files():
            used = {node.id for node in ast.walk(ast.parse(text_of(name))) if isinstance(node, ast.Name)}
            self.assertEqual([one for one in names_imported(name) if one not in used], [], name)

    def test_names_are_plain(self):
        for place, node in nodes():
            for name in names_bound(node):
                dunder = isinstance(node, ast.FunctionDef) and name.startswith("__") and name.endswith("__")
                self.assertTrue(dunder or not name.startswith("_"), (place, name))
                self.assertNotIn(name, dir(builtins) if not isinstance(node, ast.FunctionDef) else (), (place, name))

    def test_builtins(self):
        for place, node in nodes():
            if isinstance(node, ast.Name) and node.id in dir(builtins):
                self.assertIn(node.id, BUILTINS, place)

    def test_methods(self):
        own = own_methods()
        for place, node in nodes():
            if isinstance(node, ast.Call) and isinstance(node.func, ast.Attribute):
                self.assertIn(node.func.attr, METHODS | own, place)

    def test_no_name_is_a_method_and_an_attribute(self):
        self.assertEqual(own_methods() & own_attributes(), set())

    def test_attributes_are_none_of_builtin_values(self):
        taken = {name for thing in plain_kinds() for name in dir(thing)}
        self.assertEqual(own_attributes() & taken - {"count", "index", "title", "find", "get", "join", "lower", "upper",
                                                     "split", "strip", "copy", "add"}, set())

    def test_attributes_that_are_read_are_assigned(self):
        known = own_attributes() | own_methods() | METHODS
        for place, node in nodes():
            if isinstance(node, ast.Attribute) and isinstance(node.ctx, ast.Load):
                self.assertIn(node.attr, known, place)

    def test_module_level_is_plain(self):
        for name in files():
            above = []
            for row in ast.parse(text_of(name)).body:
                self.assertIsInstance(row, (ast.Expr, ast.ImportFrom, ast.FunctionDef, ast.ClassDef, ast.Assign), name)
                if isinstance(row, ast.FunctionDef):
                    above.append(row.name)
                if isinstance(row, ast.Assign):
                    for node in ast.walk(row.value):
                        self.assertNotIsInstance(node, (ast.Call, ast.Lambda, ast.ListComp, ast.Set, ast.IfExp), name)
                        if isinstance(node, ast.Name) and not node.id.isupper():
                            self.assertIn(node.id, above, name)

    def test_errors_are_made_where_they_are_raised(self):
        for place, node in nodes():
            if isinstance(node, ast.Raise) and node.exc is not None:
                self.assertIsInstance(node.exc, ast.Call, place)
                self.assertIsInstance(node.exc.func, ast.Name, place)
            if isinstance(node, ast.ExceptHandler):
                self.assertIsNotNone(node.type, place)
                named = node.type.elts if isinstance(node.type, ast.Tuple) else [node.type]
                for one in named:
                    self.assertIn(one.id, names_of_file("errors.py"), place)

    def test_no_call_has_stars_of_a_call(self):
        for place, node in nodes():
            if isinstance(node, ast.Call):
                for one in node.args:
                    if isinstance(one, ast.Starred):
                        self.assertIsInstance(one.value, (ast.Name, ast.Attribute), place)

    def test_sets_are_not_kept(self):
        for place, node in nodes():
            if isinstance(node, (ast.Assign, ast.Return)):
                self.assertNotIsInstance(node.value, (ast.Set, ast.SetComp), place)

    def test_numbers_have_no_point(self):
        for place, node in nodes():
            self.assertNotIsInstance(node, (ast.Div, ast.Await), place)
            if isinstance(node, ast.Constant):
                self.assertNotIsInstance(node.value, (float, complex), place)

    def test_is_stands_beside_none_and_truths_alone(self):
        for place, node in nodes():
            if isinstance(node, ast.Compare):
                for sign, other in zip(node.ops, node.comparators):
                    if isinstance(sign, (ast.Is, ast.IsNot)):
                        self.assertIsInstance(other, ast.Constant, place)
                        self.assertIn(other.value, (None, True, False), place)


if __name__ == "__main__":
    unittest.main()
