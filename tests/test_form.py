"""The form of the code: those rules of LANGUAGE.md that a test can see."""

import ast
import builtins
import functools
import re
import unittest
from pathlib import Path

PACKAGE = Path(__file__).resolve().parent.parent / "trackworth"

BUILTINS = frozenset((
    "len range enumerate zip min max sum abs sorted reversed int str bool bytes list tuple dict set frozenset "
    "isinstance ord repr any all divmod pow Exception ValueError TypeError KeyError IndexError LookupError "
    "ZeroDivisionError ArithmeticError OverflowError RuntimeError NotImplementedError AttributeError StopIteration"
).split())

METHODS = frozenset((
    "append clear copy count endswith extend find get index insert isalnum isalpha isdigit islower isspace isupper "
    "items join keys ljust lower lstrip partition pop remove replace reverse rfind rjust rpartition rsplit rstrip "
    "setdefault split splitlines startswith strip update upper values zfill bit_length add discard"
).split())

BARRED = frozenset((
    "register mro elements open input law version_info with_traceback add_note attrgetter breakpoint builtins compile "
    "copyright credits delattr dir eval exec exit gc globals help id importlib license locals methodcaller os quit "
    "super vars sys type typing enum Enum Generic Protocol ABC namedtuple dataclass overload contextmanager"
).split())

STATEMENTS = (
    ast.Assign, ast.AugAssign, ast.If, ast.While, ast.For, ast.Return, ast.Break, ast.Continue, ast.Pass, ast.Raise,
    ast.Assert, ast.Try, ast.Expr, ast.Delete, ast.FunctionDef, ast.ClassDef, ast.ImportFrom,
)

BARRED_NODES = (
    ast.Div, ast.Pow, ast.Set, ast.Starred, ast.JoinedStr, ast.Lambda, ast.Yield, ast.YieldFrom, ast.NamedExpr,
)


# The methods without an object of their own, each with its file.
STATIC = (("journal", "again"),)


@functools.cache
def trees():
    """The name and the tree of each file of the package."""
    return [(path.stem, ast.parse(path.read_text("ascii"))) for path in sorted(PACKAGE.glob("*.py"))]


def nodes(kinds):
    """All nodes of these kinds, each with the name of its file."""
    return [(name, node) for name, tree in trees() for node in ast.walk(tree) if isinstance(node, kinds)]


def bound_names(tree):
    """The names that a file gives a meaning to: functions, classes, parameters and variables."""
    found = []
    for node in ast.walk(tree):
        if isinstance(node, (ast.FunctionDef, ast.ClassDef)):
            found.append(node.name)
        elif isinstance(node, ast.arg):
            found.append(node.arg)
        elif isinstance(node, ast.Name) and not isinstance(node.ctx, ast.Load):
            found.append(node.id)
    return found


def own_methods():
    """The names of the methods of the package's classes."""
    found = [told.name for _, node in nodes(ast.ClassDef) for told in node.body if isinstance(told, ast.FunctionDef)]
    return set(found) - {"__init__"}


def own_attributes():
    """The names of the attributes that the package assigns."""
    return {node.attr for _, node in nodes(ast.Attribute) if isinstance(node.ctx, ast.Store)}


def top_names(tree):
    """The names that are defined at the level of the module, those of imports left out."""
    found = []
    for node in tree.body:
        if isinstance(node, (ast.FunctionDef, ast.ClassDef)):
            found.append(node.name)
        elif isinstance(node, ast.Assign):
            found.append(node.targets[0].id)
    return found


def imported_files():
    """For each file the files of the package that it imports from."""
    found = {}
    for name, tree in trees():
        froms = [node.module for node in tree.body if isinstance(node, ast.ImportFrom)]
        found[name] = [module.removeprefix("trackworth.") for module in froms if module.startswith("trackworth.")]
    return found


class FilesTest(unittest.TestCase):

    def test_the_folder_holds_plain_files_only(self):
        for path in PACKAGE.iterdir():
            if path.name != "__pycache__":
                self.assertRegex(path.name, r"\A(__init__|[a-z][a-z0-9_]*)\.py\Z")
                self.assertNotIn(path.stem, dir(builtins))
        self.assertLessEqual(len(trees()), 100)

    def test_sizes_and_signs(self):
        for path in PACKAGE.glob("*.py"):
            text = path.read_text("utf-8")
            self.assertRegex(text, r"\A[ -~\n]*\Z", path.name)
            lines = text.split("\n")
            self.assertLessEqual(len(lines), 399, path.name)
            self.assertLessEqual(max(len(line) for line in lines), 120, path.name)
        for name, node in nodes(ast.FunctionDef):
            self.assertLessEqual(node.end_lineno - node.lineno + 1, 40, name + "." + node.name)

    def test_every_file_class_and_function_says_what_it_is_for(self):
        for name, node in nodes((ast.Module, ast.ClassDef, ast.FunctionDef)):
            if getattr(node, "name", "") != "__init__":
                self.assertTrue(ast.get_docstring(node), name)


class ImportsTest(unittest.TestCase):

    def test_imports_name_the_file_that_defines_the_name(self):
        tops = {name: top_names(tree) for name, tree in trees()}
        for name, tree in trees():
            for node in ast.walk(tree):
                self.assertNotIsInstance(node, ast.Import)
                if isinstance(node, ast.ImportFrom):
                    self.assertIn(node, tree.body)
                    self.assertEqual(node.level, 0)
                    package, file = node.module.split(".")
                    self.assertEqual(package, "trackworth")
                    for told in node.names:
                        self.assertIsNone(told.asname)
                        self.assertIn(told.name, tops[file])

    def test_imports_stand_at_the_top(self):
        for name, tree in trees():
            kinds = [isinstance(node, ast.ImportFrom) for node in tree.body[1:]]
            self.assertEqual(kinds, sorted(kinds, reverse=True), name)

    def test_all_imports_are_used(self):
        for name, tree in trees():
            used = [node.id for node in ast.walk(tree) if isinstance(node, ast.Name)]
            for node in tree.body:
                if isinstance(node, ast.ImportFrom):
                    for told in node.names:
                        self.assertIn(told.name, used, name)

    def test_no_two_files_import_from_each_other(self):
        left = imported_files()
        while left:
            free = [name for name in left if not any(other in left for other in left[name])]
            self.assertTrue(free, "a circle of imports: %r" % sorted(left))
            left = {name: froms for name, froms in left.items() if name not in free}


class StatementsTest(unittest.TestCase):

    def test_module_level(self):
        for name, tree in trees():
            for at, node in enumerate(tree.body):
                if at == 0:
                    self.assertIsInstance(node, ast.Expr, name)
                elif isinstance(node, ast.Assign):
                    self.assertEqual([type(target) for target in node.targets], [ast.Name], name)
                    self.assert_plain(node.value, [told.name for told in tree.body[:at] if hasattr(told, "name")])
                else:
                    self.assertIsInstance(node, (ast.ImportFrom, ast.FunctionDef, ast.ClassDef), name)

    def assert_plain(self, value, above):
        """The value is written out; a dict may also have functions that are defined above it."""
        if isinstance(value, ast.Dict) and all(isinstance(told, ast.Name) for told in value.values):
            for told in value.values:
                self.assertIn(told.id, above)
            for key in value.keys:
                ast.literal_eval(key)
        else:
            ast.literal_eval(value)

    def test_functions_of_a_table_are_called_by_a_name(self):
        for name, node in nodes(ast.Call):
            self.assertIsInstance(node.func, (ast.Name, ast.Attribute), name)

    def test_only_plain_statements_and_expressions(self):
        for name, node in nodes(ast.stmt):
            self.assertIsInstance(node, STATEMENTS, "%s line %d" % (name, node.lineno))
        for name, node in nodes(BARRED_NODES):
            self.fail("%s has %s" % (name, type(node).__name__))

    def test_functions_are_plain(self):
        for name, node in nodes((ast.FunctionDef, ast.ClassDef)):
            if (name, node.name) in STATIC:
                self.assertEqual([told.id for told in node.decorator_list], ["staticmethod"])
            else:
                self.assertEqual(node.decorator_list, [], name)
        for name, node in nodes(ast.FunctionDef):
            told = node.args
            self.assertIsNone(told.vararg)
            self.assertIsNone(told.kwarg)
            self.assertEqual(told.kwonlyargs + told.posonlyargs + told.defaults, [])

    def test_handlers_name_own_errors(self):
        own = top_names(dict(trees())["errors"])
        for _, node in nodes(ast.ExceptHandler):
            told = node.type.elts if isinstance(node.type, ast.Tuple) else [node.type]
            for error in told:
                self.assertIn(error.id, own)

    def test_is_stands_beside_none_only(self):
        for name, node in nodes(ast.Compare):
            if any(isinstance(sign, (ast.Is, ast.IsNot)) for sign in node.ops):
                self.assertIn(getattr(node.comparators[0], "value", 0), (None, True, False), name)

    def test_numbers_and_strings(self):
        for name, node in nodes(ast.Constant):
            self.assertNotIsInstance(node.value, (float, complex, bytes), name)
            if isinstance(node.value, str):
                self.assertNotIn("%", node.value, name)
                self.assertNotIn("__", node.value, name)


class NamesTest(unittest.TestCase):

    def test_builtins_are_those_that_may_be_used(self):
        for name, tree in trees():
            decorators = [told for node in ast.walk(tree) for told in getattr(node, "decorator_list", [])]
            for node in ast.walk(tree):
                if isinstance(node, ast.Name) and node.id in dir(builtins) and node not in decorators:
                    self.assertIn(node.id, BUILTINS, name)

    def test_no_name_means_something_else(self):
        for name, tree in trees():
            imported = [told.name for node in tree.body if isinstance(node, ast.ImportFrom) for told in node.names]
            tops = top_names(tree)
            self.assertEqual(sorted(set(imported + tops)), sorted(imported + tops), name)
            for bound in bound_names(tree):
                self.assertNotIn(bound, dir(builtins), name)
                self.assertNotIn(bound, imported, name)

    def test_barred_words(self):
        for name, tree in trees():
            for bound in bound_names(tree):
                self.assertNotIn(bound, BARRED, name)
                self.assertRegex(bound, r"\A(__init__|[A-Za-z][A-Za-z0-9_]*|_)\Z")
        for path in PACKAGE.glob("*.py"):
            words = re.findall(r"\w+", path.read_text("ascii"))
            for word in ("type", "typing", "enum", "namedtuple", "dataclass", "_wall", "_WallAttr"):
                self.assertNotIn(word, words, path.name)

    def test_methods_are_those_of_builtin_values_or_own(self):
        allowed = METHODS | own_methods() | own_attributes()
        for name, node in nodes(ast.Attribute):
            if ast.unparse(node) not in ("self.__class__", "self.__class__.__name__"):
                self.assertIn(node.attr, allowed, name)

    def test_own_methods_and_attributes_have_names_of_their_own(self):
        builtin = [name for kind in (str, bytes, int, list, tuple, dict, set) for name in dir(kind)]
        self.assertEqual(own_methods() & own_attributes(), set())
        for name in own_methods() | own_attributes():
            self.assertNotIn(name, builtin)
            self.assertNotIn(name, BARRED)

    def test_attributes_are_assigned_through_a_local_name(self):
        for name, node in nodes(ast.Attribute):
            if isinstance(node.ctx, ast.Store):
                self.assertIn(node.value.id, ("self", "made"), name)

    def test_sets_are_only_measured_sorted_or_asked(self):
        for name, tree in trees():
            called = [node for node in ast.walk(tree) if isinstance(node, ast.Call) and isinstance(node.func, ast.Name)]
            inside = [told for node in called if node.func.id in ("len", "sorted") for told in node.args]
            for node in ast.walk(tree):
                plain = isinstance(node, ast.Call) and isinstance(node.func, ast.Name) and node.func.id == "set"
                if plain or isinstance(node, ast.SetComp):
                    self.assertIn(node, inside, name)


if __name__ == "__main__":
    unittest.main()
