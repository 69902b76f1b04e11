"""The files of the package keep to the rules of the language that can be seen line by line."""

import ast
import builtins
import os
import re
import unittest
import warnings

import restbodies

FOLDER = os.path.dirname(os.path.abspath(restbodies.__file__))

BUILTINS = set("""len range enumerate zip min max sum abs sorted reversed int str bool bytes list tuple dict set
frozenset isinstance ord repr any all divmod iter next super Exception ValueError TypeError KeyError IndexError
LookupError ZeroDivisionError ArithmeticError OverflowError RuntimeError NotImplementedError AttributeError
StopIteration NotImplemented property staticmethod classmethod""".split())

METHODS = set("""append clear copy count endswith extend find get index insert isalnum isalpha isdigit islower isspace
isupper items join keys ljust lower lstrip partition pop remove replace reverse rfind rjust rpartition rsplit rstrip
setdefault split splitlines startswith strip update upper values zfill bit_length title capitalize swapcase casefold
center expandtabs removeprefix removesuffix rindex isascii isdecimal isnumeric istitle isidentifier isprintable sort
add discard""".split())

DOUBLE = set("""__init__ __eq__ __repr__ __str__ __len__ __enter__ __exit__ __call__ __iter__ __lt__ __le__ __gt__ __ge__
__ne__ __bool__ __contains__""".split())

BARRED_NAMES = set("""register mro elements open input law version_info with_traceback add_note attrgetter breakpoint
builtins compile copyright credits delattr dir eval exec exit gc getattr globals hasattr help id importlib license
locals methodcaller os quit setattr type vars sys""".split())

BARRED_WORDS = """type typing typing_extensions enum Enum IntEnum StrEnum Flag IntFlag Generic Protocol ABC ABCMeta
namedtuple NamedTuple TypedDict TYPE_CHECKING abstractmethod""".split()

BARRED_PARTS = ("dataclass", "overload", "contextmanager")

STATEMENTS = (ast.Assign, ast.AugAssign, ast.If, ast.While, ast.For, ast.Return, ast.Break, ast.Continue, ast.Pass,
              ast.Raise, ast.Assert, ast.Delete, ast.Try, ast.Expr, ast.FunctionDef, ast.ClassDef, ast.ImportFrom)

SCOPES = (ast.FunctionDef, ast.Lambda)


def package_files():
    return sorted(name for name in os.listdir(FOLDER) if name != "__pycache__")


def text_of(name):
    with open(os.path.join(FOLDER, name), encoding="utf-8", newline="") as file:
        return file.read()


def trees():
    return {name: ast.parse(text_of(name)) for name in package_files()}


def nodes(kind):
    """Each node of a kind in the package, with a mark that says where it stands."""
    return [(f"{name}:{getattr(node, 'lineno', 0)}", node)
            for name, tree in trees().items() for node in ast.walk(tree) if isinstance(node, kind)]


def bound_names(tree):
    """The names that a module binds at its own level."""
    found = []
    for row in tree.body:
        if isinstance(row, (ast.FunctionDef, ast.ClassDef)):
            found.append(row.name)
        elif isinstance(row, ast.ImportFrom):
            found += [each.asname or each.name for each in row.names]
        elif isinstance(row, ast.Assign):
            found += [target.id for target in row.targets]
    return found


def local_names(node):
    """Parameters and names that are assigned within a function."""
    found = [each.arg for each in ast.walk(node) if isinstance(each, ast.arg)]
    return found + [each.id for each in ast.walk(node)
                    if isinstance(each, ast.Name) and isinstance(each.ctx, ast.Store)]


class Files(unittest.TestCase):

    def test_names_of_files(self):
        for name in package_files():
            self.assertRegex(name, r"^([a-z][a-z0-9_]*|__init__)\.py$")
            self.assertNotIn(name[:-3], dir(builtins))
            self.assertNotIn(name[:-3], BARRED_WORDS)

    def test_signs_and_sizes(self):
        for name in package_files():
            text = text_of(name)
            self.assertRegex(text, r"\A[ -~\n]*\Z", name)
            rows = text.splitlines()
            self.assertLessEqual(len(rows), 399, name)
            self.assertLessEqual(max(len(row) for row in rows), 120, name)

    def test_functions_are_short(self):
        for mark, node in nodes(ast.FunctionDef):
            self.assertLessEqual(node.end_lineno - node.lineno + 1, 40, mark)

    def test_barred_words(self):
        for name in package_files():
            text = text_of(name)
            for word in BARRED_WORDS:
                self.assertIsNone(re.search(rf"\b{word}\b", text), (name, word))
            for part in BARRED_PARTS:
                self.assertNotIn(part, text, name)

    def test_no_warnings(self):
        with warnings.catch_warnings():
            warnings.simplefilter("error")
            for name in package_files():
                compile(text_of(name), name, "exec")


class Imports(unittest.TestCase):

    def imports(self):
        found = {}
        for name, tree in trees().items():
            found[name] = [node for node in ast.walk(tree) if isinstance(node, ast.ImportFrom)]
        return found

    def test_only_from_the_file_that_defines_the_name(self):
        defined = {}
        for name, tree in trees().items():
            kept = [row for row in tree.body if not isinstance(row, ast.ImportFrom)]
            defined["restbodies." + name[:-3]] = bound_names(ast.Module(kept, []))
        for name, rows in self.imports().items():
            for row in rows:
                self.assertEqual(row.level, 0, name)
                self.assertIn(row.module, defined, name)
                for each in row.names:
                    self.assertIn(each.name, defined[row.module], name)
        self.assertEqual(nodes(ast.Import), [])

    def test_no_two_files_import_from_each_other(self):
        below = {name: {row.module.split(".")[1] + ".py" for row in rows} for name, rows in self.imports().items()}
        while below:
            ready = [name for name in below if not below[name] & set(below)]
            self.assertTrue(ready, below)
            for name in ready:
                del below[name]

    def test_each_import_is_used(self):
        for name, rows in self.imports().items():
            used = {node.id for node in ast.walk(trees()[name]) if isinstance(node, ast.Name)}
            for row in rows:
                for each in row.names:
                    self.assertIn(each.asname or each.name, used, name)


class Names(unittest.TestCase):

    def test_module_level(self):
        for name, tree in trees().items():
            bound = bound_names(tree)
            self.assertEqual(len(bound), len(set(bound)), name)
            for row in tree.body[1:]:
                self.assertIsInstance(row, (ast.FunctionDef, ast.ClassDef, ast.ImportFrom, ast.Assign), name)
            self.assertTrue(ast.get_docstring(tree), name)

    def test_plain_names(self):
        own = [(mark, node.name) for mark, node in nodes((ast.FunctionDef, ast.ClassDef))]
        own += [(mark, name) for mark, node in nodes(SCOPES) for name in local_names(node)]
        own += [(name, each) for name, tree in trees().items() for each in bound_names(tree)]
        own += [(mark, node.attr) for mark, node in nodes(ast.Attribute)]
        for mark, name in own:
            if name not in DOUBLE:
                self.assertRegex(name, r"^[A-Za-z][A-Za-z0-9_]*$", mark)
            self.assertNotIn(name, BARRED_NAMES, mark)

    def test_nothing_has_the_name_of_a_builtin(self):
        for name, tree in trees().items():
            for each in bound_names(tree):
                self.assertFalse(hasattr(builtins, each), (name, each))
        for mark, node in nodes(SCOPES):
            for each in local_names(node):
                self.assertFalse(hasattr(builtins, each), (mark, each))

    def test_nothing_has_the_name_of_a_class_or_an_import(self):
        for name, tree in trees().items():
            kept = [row for row in tree.body if isinstance(row, (ast.ImportFrom, ast.ClassDef))]
            taken = set(bound_names(ast.Module(kept, [])))
            for node in ast.walk(tree):
                if isinstance(node, SCOPES):
                    self.assertEqual(taken & set(local_names(node)), set(), (name, node.lineno))

    def test_only_the_listed_builtins(self):
        for mark, node in nodes(ast.Name):
            if hasattr(builtins, node.id):
                self.assertIn(node.id, BUILTINS, mark)

    def test_only_the_listed_methods(self):
        own = {node.name for mark, node in nodes(ast.FunctionDef)}
        for mark, node in nodes(ast.Call):
            if isinstance(node.func, ast.Attribute):
                self.assertIn(node.func.attr, METHODS | own, mark)

    def test_no_name_is_a_method_and_an_attribute(self):
        methods = {row.name for mark, node in nodes(ast.ClassDef) for row in node.body
                   if isinstance(row, ast.FunctionDef)}
        stored = {node.attr for mark, node in nodes(ast.Attribute) if isinstance(node.ctx, ast.Store)}
        self.assertEqual(methods & stored, set())
        for mark, node in nodes(ast.Attribute):
            self.assertIn(node.attr, methods | stored | METHODS | DOUBLE, mark)


class Rows(unittest.TestCase):

    def test_statements(self):
        for mark, node in nodes(ast.stmt):
            self.assertIsInstance(node, STATEMENTS, mark)

    def test_no_float_and_no_division(self):
        for mark, node in nodes(ast.Constant):
            self.assertNotIsInstance(node.value, (float, complex), mark)
        self.assertEqual(nodes(ast.Div), [])

    def test_powers_are_literal(self):
        for mark, node in nodes(ast.BinOp):
            if isinstance(node.op, ast.Pow):
                self.assertIsInstance(node.right, ast.Constant, mark)
                self.assertIn(node.right.value, range(65), mark)

    def test_strings(self):
        for mark, node in nodes(ast.Constant):
            if isinstance(node.value, str):
                self.assertNotIn("%", node.value, mark)

    def test_is_stands_with_none_true_and_false(self):
        for mark, node in nodes(ast.Compare):
            for sign, right in zip(node.ops, node.comparators):
                if isinstance(sign, (ast.Is, ast.IsNot)):
                    self.assertTrue(isinstance(right, ast.Constant) and right.value in (None, True, False), mark)

    def test_lists_stand_where_a_class_has_an_equal(self):
        for mark, node in nodes(ast.Call):
            if isinstance(node.func, ast.Name) and node.func.id in ("any", "all", "min", "max", "sum", "sorted"):
                for each in node.args:
                    self.assertNotIsInstance(each, ast.GeneratorExp, mark)

    def test_decorators_and_defaults(self):
        for mark, node in nodes((ast.FunctionDef, ast.ClassDef)):
            self.assertEqual(node.decorator_list, [], mark)
        for mark, node in nodes(ast.arguments):
            self.assertEqual(node.posonlyargs, [], mark)
            for each in node.defaults + node.kw_defaults:
                self.assertIsInstance(each, (ast.Constant, ast.Name, type(None)), mark)

    def test_equal_and_text_assign_nothing(self):
        for mark, node in nodes(ast.FunctionDef):
            if node.name in ("__eq__", "__repr__", "__str__", "__len__"):
                kinds = [each for each in ast.walk(node) if isinstance(each, (ast.Assign, ast.AugAssign, ast.Delete))]
                self.assertEqual(kinds, [], mark)
                self.assertIsInstance(node.body[-1], ast.Return, mark)

    def test_errors_are_raised_on_the_spot(self):
        for mark, node in nodes(ast.Raise):
            if node.exc is not None:
                self.assertIsInstance(node.exc, ast.Call, mark)
                self.assertIsInstance(node.exc.func, ast.Name, mark)

    def test_no_bare_handler(self):
        for mark, node in nodes(ast.ExceptHandler):
            self.assertIsNotNone(node.type, mark)


if __name__ == "__main__":
    unittest.main()
