"""The form of the code: those rules of the language document that can be seen mechanically."""

import ast
import builtins
import pathlib
import re
import unittest

import laterline

FOLDER = pathlib.Path(laterline.__file__).parent
FILES = sorted(path for path in FOLDER.iterdir() if path.name != "__pycache__")
TREES = {path.stem: ast.parse(path.read_text()) for path in FILES}
BUILTINS = set(
    "len range enumerate zip min max sum abs sorted reversed int str bool bytes list tuple dict set frozenset "
    "isinstance ord repr any all divmod Exception ValueError TypeError KeyError IndexError LookupError "
    "ZeroDivisionError ArithmeticError OverflowError RuntimeError NotImplementedError StopIteration".split())
DOUBLE = {"__init__", "__eq__", "__repr__", "__str__", "__len__", "__enter__", "__exit__"}
BARRED = ("type typing typing_extensions enum Enum IntEnum StrEnum Flag IntFlag Generic Protocol ABC ABCMeta "
          "namedtuple NamedTuple TypedDict TYPE_CHECKING abstractmethod").split()
BUILTIN_METHODS = set(
    "append clear copy count endswith extend find get index insert isalnum isalpha isdigit islower isspace isupper "
    "items join keys ljust lower lstrip partition pop remove replace reverse rfind rjust rpartition rsplit rstrip "
    "setdefault split splitlines startswith strip update upper values zfill bit_length removeprefix "
    "removesuffix __init__".split())
UNUSED = (ast.AsyncFunctionDef, ast.Await, ast.Global, ast.NamedExpr, ast.Div, ast.Import)


def nodes(kind):
    """All nodes of a kind, with the name of their file."""
    return [(name, node) for name, tree in TREES.items() for node in ast.walk(tree) if isinstance(node, kind)]


def bound_names(tree):
    """All names that a file binds, at any depth."""
    found = {node.name for node in ast.walk(tree) if isinstance(node, (ast.FunctionDef, ast.ClassDef))}
    found |= {node.id for node in ast.walk(tree) if isinstance(node, ast.Name) and not isinstance(node.ctx, ast.Load)}
    found |= {node.arg for node in ast.walk(tree) if isinstance(node, ast.arg)}
    found |= {name.name for node in ast.walk(tree) if isinstance(node, ast.ImportFrom) for name in node.names}
    return found | {node.name for node in ast.walk(tree) if isinstance(node, ast.ExceptHandler) and node.name}


def top_names(tree):
    """The names that a file itself defines at module level."""
    found = {node.name for node in tree.body if isinstance(node, (ast.FunctionDef, ast.ClassDef))}
    return found | {node.targets[0].id for node in tree.body if isinstance(node, ast.Assign)}


class LanguageTest(unittest.TestCase):

    def test_files_and_characters(self):
        for path in FILES:
            self.assertRegex(path.name, r"\A[a-z0-9_]+\.py\Z")
            text = path.read_text()
            self.assertRegex(text, r"\A[ -~\n]*\Z", path.name)
            lines = text.split("\n")
            self.assertLessEqual(len(lines), 400, path.name)
            self.assertLessEqual(max(len(line) for line in lines), 120, path.name)
            for word in BARRED:
                self.assertIsNone(re.search(rf"\b{word}\b", text), (path.name, word))
            self.assertIsNone(re.search("dataclass|overload|contextmanager", text), path.name)

    def test_functions_are_short(self):
        for name, node in nodes(ast.FunctionDef):
            self.assertLessEqual(node.end_lineno - node.lineno + 1, 40, (name, node.name))

    def test_imports_name_the_defining_file(self):
        for name, node in nodes(ast.ImportFrom):
            self.assertIn(node, TREES[name].body)
            self.assertTrue(node.module.startswith("laterline."), name)
            source = top_names(TREES[node.module.removeprefix("laterline.")])
            self.assertLessEqual({imported.name for imported in node.names}, source, name)
            self.assertEqual([imported.asname for imported in node.names if imported.asname], [], name)

    def test_no_ring_of_imports(self):
        ahead = {name: set() for name in TREES}
        for name, node in nodes(ast.ImportFrom):
            ahead[name].add(node.module.removeprefix("laterline."))
        while ahead:
            free = [name for name in ahead if not ahead[name] & set(ahead)]
            self.assertNotEqual(free, [], "files import one another")
            for name in free:
                del ahead[name]

    def test_names(self):
        for name, tree in TREES.items():
            bound = bound_names(tree)
            for word in bound - DOUBLE:
                self.assertFalse(word.startswith("_"), (name, word))
                self.assertFalse(hasattr(builtins, word), (name, word))
            used = {node.id for node in ast.walk(tree) if isinstance(node, ast.Name)}
            self.assertLessEqual(used - bound, BUILTINS | {"super"}, name)

    def test_no_name_of_an_import_or_a_class_has_another_meaning(self):
        for name, tree in TREES.items():
            taken = {imported.name for node in tree.body if isinstance(node, ast.ImportFrom) for imported in node.names}
            taken |= {node.name for node in tree.body if isinstance(node, ast.ClassDef)}
            inner = {node.arg for node in ast.walk(tree) if isinstance(node, ast.arg)}
            names = [node for node in ast.walk(tree) if isinstance(node, ast.Name)]
            inner |= {node.id for node in names if isinstance(node.ctx, ast.Store)}
            self.assertEqual(taken & inner, set(), name)

    def test_attributes_that_are_read_are_assigned_or_methods(self):
        methods = {inner.name for _, node in nodes(ast.ClassDef) for inner in node.body
                   if isinstance(inner, ast.FunctionDef)}
        assigned = {node.attr for _, node in nodes(ast.Attribute) if isinstance(node.ctx, ast.Store)}
        called = {id(node.func) for _, node in nodes(ast.Call)}
        for name, node in nodes(ast.Attribute):
            if isinstance(node.ctx, ast.Load):
                known = assigned if id(node) not in called else methods | BUILTIN_METHODS
                self.assertIn(node.attr, known, (name, node.lineno))

    def test_no_name_is_a_method_and_an_attribute(self):
        methods = {inner.name for _, node in nodes(ast.ClassDef) for inner in node.body
                   if isinstance(inner, ast.FunctionDef)}
        attributes = {node.attr for _, node in nodes(ast.Attribute) if isinstance(node.ctx, ast.Store)}
        self.assertEqual(methods & attributes, set())

    def test_statements_and_values(self):
        self.assertEqual(nodes(UNUSED), [])
        self.assertEqual([node.value for _, node in nodes(ast.Constant) if isinstance(node.value, float)], [])
        for name, node in nodes(ast.Constant):
            if isinstance(node.value, str):
                self.assertNotIn("%", node.value, name)

    def test_whoever_takes_a_generator_takes_a_list_instead(self):
        for name, node in nodes(ast.Call):
            if isinstance(node.func, ast.Name) and node.func.id in ("any", "all", "min", "max", "sum", "sorted"):
                self.assertFalse(isinstance(node.args[0], ast.GeneratorExp), (name, node.lineno))


if __name__ == "__main__":
    unittest.main()
