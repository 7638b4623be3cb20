"""The package's own files keep to a small part of Python: what of it can be seen from the files."""

import ast
import builtins
import pathlib
import re
import unittest

PACKAGE = pathlib.Path(__file__).resolve().parent.parent / "figurebook"
FILES = sorted(path for path in PACKAGE.rglob("*") if path.is_file() and "__pycache__" not in path.parts)

ALLOWED = {
    "Module", "Expr", "ImportFrom", "alias", "FunctionDef", "arguments", "arg", "ClassDef", "Lambda",
    "Assign", "AugAssign", "If", "While", "For", "Return", "Break", "Continue", "Pass", "Raise", "Try",
    "ExceptHandler", "Assert", "Delete", "Name", "Constant", "List", "Tuple", "Dict", "Set", "BinOp", "UnaryOp",
    "BoolOp", "Compare", "IfExp", "Call", "keyword", "Attribute", "Subscript", "Slice", "ListComp", "DictComp",
    "SetComp", "comprehension", "JoinedStr", "FormattedValue", "Starred", "Load", "Store", "Del",
    "Add", "Sub", "Mult", "FloorDiv", "Mod", "Pow", "LShift", "RShift", "BitAnd", "BitOr", "BitXor", "Invert",
    "USub", "Not", "And", "Or", "Eq", "NotEq", "Lt", "LtE", "Gt", "GtE", "In", "NotIn", "Is", "IsNot",
}
PYTHONS_OWN = set(
    "len range enumerate zip min max sum abs sorted reversed int str bool bytes list tuple dict set isinstance ord "
    "repr any all divmod Exception ValueError TypeError KeyError IndexError LookupError ZeroDivisionError "
    "ArithmeticError OverflowError RuntimeError NotImplementedError StopIteration".split()
)
METHODS = set(
    "append clear copy count endswith extend find get index insert isalnum isalpha isdigit islower isspace isupper "
    "items join keys ljust lower lstrip partition pop remove replace reverse rfind rjust rpartition rsplit rstrip "
    "setdefault split splitlines startswith strip update upper values zfill bit_length add discard sort".split()
)
UNUSED_WORDS = (
    "type typing typing_extensions enum Enum IntEnum StrEnum Flag IntFlag Generic Protocol ABC ABCMeta namedtuple "
    "NamedTuple TypedDict TYPE_CHECKING abstractmethod"
).split()
TWO_UNDERSCORES = {"__init__", "__eq__", "__repr__", "__str__", "__len__"}


def tree_of(path):
    return ast.parse(path.read_text(encoding="ascii"))


def nodes(kind):
    """All nodes of a kind in the package, with the file of each."""
    return [(path.name, node) for path in FILES for node in ast.walk(tree_of(path)) if isinstance(node, kind)]


def given_names(tree):
    """All names that a file binds somewhere."""
    found = set()
    for node in ast.walk(tree):
        if isinstance(node, (ast.FunctionDef, ast.ClassDef)):
            found.add(node.name)
        elif isinstance(node, ast.arg):
            found.add(node.arg)
        elif isinstance(node, ast.alias):
            found.add(node.asname or node.name)
        elif isinstance(node, ast.Name) and isinstance(node.ctx, ast.Store):
            found.add(node.id)
        elif isinstance(node, ast.ExceptHandler) and node.name:
            found.add(node.name)
    return found


def own_methods():
    return {part.name for _, node in nodes(ast.ClassDef) for part in node.body if isinstance(part, ast.FunctionDef)}


def own_values():
    return {node.attr for _, node in nodes(ast.Attribute) if isinstance(node.ctx, ast.Store)}


class Files(unittest.TestCase):

    def test_plain_files_alone(self):
        self.assertIn(PACKAGE / "__init__.py", FILES)
        for path in FILES:
            self.assertRegex(path.name, r"\A[a-z0-9_]+\.py\Z")

    def test_signs_and_sizes(self):
        for path in FILES:
            text = path.read_text(encoding="ascii")
            self.assertRegex(text, r"\A[ -~\n]*\Z", path.name)
            rows = text.split("\n")
            self.assertLessEqual(len(rows), 400, path.name)
            self.assertLessEqual(max(len(row) for row in rows), 120, path.name)

    def test_words_that_stand_nowhere(self):
        for path in FILES:
            text = path.read_text(encoding="ascii")
            self.assertEqual(set(re.findall(r"\w+", text)) & set(UNUSED_WORDS), set(), path.name)
            self.assertNotRegex(text, "dataclass|overload|contextmanager", path.name)


class Forms(unittest.TestCase):

    def test_allowed_forms_alone(self):
        for name, node in nodes(ast.AST):
            self.assertIn(node.__class__.__name__, ALLOWED, (name, getattr(node, "lineno", None)))

    def test_short_plain_functions(self):
        for name, node in nodes(ast.FunctionDef):
            self.assertLessEqual(node.end_lineno - node.lineno + 1, 40, (name, node.name))
            self.assertEqual(node.decorator_list, [], (name, node.name))
            taken = node.args
            self.assertFalse(taken.vararg or taken.kwarg or taken.posonlyargs, (name, node.name))

    def test_imports(self):
        for name, node in nodes(ast.ImportFrom):
            self.assertEqual(node.level, 0, name)
            self.assertTrue((PACKAGE.parent / (node.module.replace(".", "/") + ".py")).is_file(), (name, node.module))
            self.assertNotIn("*", [alias.name for alias in node.names], name)

    def test_names(self):
        for path in FILES:
            tree = tree_of(path)
            given = given_names(tree)
            for word in given - TWO_UNDERSCORES:
                self.assertFalse(word.startswith("_"), (path.name, word))
            for node in ast.walk(tree):
                if isinstance(node, ast.Name):
                    self.assertIn(node.id, given | PYTHONS_OWN, (path.name, node.lineno))

    def test_no_name_of_pythons_own_given_anew(self):
        for path in FILES:
            tree = tree_of(path)
            methods = [part for node in ast.walk(tree) if isinstance(node, ast.ClassDef) for part in node.body]
            for node in ast.walk(tree):
                if isinstance(node, (ast.FunctionDef, ast.ClassDef)) and node not in methods:
                    self.assertNotIn(node.name, dir(builtins), path.name)
                if isinstance(node, ast.arg):
                    self.assertNotIn(node.arg, dir(builtins), path.name)
                if isinstance(node, ast.Name) and isinstance(node.ctx, ast.Store):
                    self.assertNotIn(node.id, dir(builtins), path.name)

    def test_no_local_called_like_an_import_or_a_class(self):
        for path in FILES:
            tree = tree_of(path)
            top = {alias.asname or alias.name for node in tree.body if isinstance(node, ast.ImportFrom)
                   for alias in node.names}
            top |= {node.name for node in tree.body if isinstance(node, ast.ClassDef)}
            for node in ast.walk(tree):
                if isinstance(node, (ast.FunctionDef, ast.Lambda)):
                    given = {inner.id for inner in ast.walk(node)
                             if isinstance(inner, ast.Name) and isinstance(inner.ctx, ast.Store)}
                    given |= {inner.arg for inner in ast.walk(node) if isinstance(inner, ast.arg)}
                    self.assertEqual(given & top, set(), (path.name, node.lineno))

    def test_no_file_draws_from_one_that_draws_from_it(self):
        drawn = {
            f"figurebook.{path.stem}": {node.module for node in ast.walk(tree_of(path)) if isinstance(node, ast.ImportFrom)}
            for path in FILES
        }
        left = dict(drawn)
        while left:
            free = [name for name, others in left.items() if not others & set(left)]
            self.assertNotEqual(free, [], sorted(left))
            for name in free:
                del left[name]

    def test_imports_come_from_the_file_that_defines_them(self):
        for name, node in nodes(ast.ImportFrom):
            tree = tree_of(PACKAGE.parent / (node.module.replace(".", "/") + ".py"))
            defined = {part.name for part in tree.body if isinstance(part, (ast.FunctionDef, ast.ClassDef))}
            defined |= {part.targets[0].id for part in tree.body if isinstance(part, ast.Assign)}
            for alias in node.names:
                self.assertIn(alias.name, defined, name)

    def test_methods_and_values(self):
        methods, values = own_methods(), own_values()
        self.assertEqual(methods & values, set())
        for name, node in nodes(ast.Attribute):
            self.assertIn(node.attr, methods | values | METHODS, (name, node.lineno))

    def test_written_values(self):
        for name, node in nodes(ast.Constant):
            self.assertNotIsInstance(node.value, (float, complex), (name, node.lineno))
            if isinstance(node.value, str):
                self.assertNotIn(chr(37), node.value, (name, node.lineno))

    def test_is_beside_none_true_false_alone(self):
        for name, node in nodes(ast.Compare):
            for sign, right in zip(node.ops, node.comparators):
                if isinstance(sign, (ast.Is, ast.IsNot)):
                    self.assertIsInstance(right, ast.Constant, (name, node.lineno))
                    self.assertIn(right.value, (None, True, False), (name, node.lineno))

    def test_walked_at_once(self):
        walking = ("list", "tuple", "dict", "sorted", "sum", "any", "all", "enumerate", "zip", "min", "max", "bytes")
        for path in FILES:
            tree = tree_of(path)
            allowed = set()
            for node in ast.walk(tree):
                if isinstance(node, (ast.For, ast.comprehension)):
                    allowed.add(node.iter)
                if isinstance(node, ast.Call) and isinstance(node.func, ast.Name) and node.func.id in walking:
                    allowed.update(node.args)
                if isinstance(node, ast.Call) and isinstance(node.func, ast.Attribute) and node.func.attr == "join":
                    allowed.update(node.args)
            for node in ast.walk(tree):
                if isinstance(node, ast.Call):
                    word = node.func.id if isinstance(node.func, ast.Name) else getattr(node.func, "attr", None)
                    if word in ("zip", "enumerate", "reversed", "range", "items", "keys", "values"):
                        self.assertIn(node, allowed, (path.name, node.lineno))

    def test_classes(self):
        for name, node in nodes(ast.ClassDef):
            self.assertLessEqual(len(node.bases), 1, (name, node.name))
            self.assertEqual((node.decorator_list, node.keywords), ([], []), (name, node.name))
            for part in node.body:
                is_words = isinstance(part, ast.Expr) and isinstance(part.value, ast.Constant)
                self.assertTrue(is_words or isinstance(part, ast.FunctionDef), (name, node.name))
