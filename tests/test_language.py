"""The rules of the language subset that can be seen in the code of one file."""

import ast
import re
import unittest
from pathlib import Path

PACKAGE = Path(__file__).resolve().parent.parent / "gaithold"
FILES = sorted(PACKAGE.glob("*.py"))
BUILTINS = set(
    "len range enumerate zip min max sum abs sorted reversed int str bool bytes list tuple dict set frozenset"
    " isinstance ord repr any all divmod iter next super Exception ValueError TypeError KeyError IndexError"
    " LookupError ZeroDivisionError ArithmeticError OverflowError RuntimeError NotImplementedError"
    " AttributeError StopIteration NotImplemented property staticmethod classmethod".split())
BARRED_WORDS = re.compile(
    r"\b(type|typing|typing_extensions|enum|Enum|IntEnum|StrEnum|Flag|IntFlag|Generic|Protocol|ABC|ABCMeta"
    r"|namedtuple|NamedTuple|TypedDict|TYPE_CHECKING|abstractmethod)\b|dataclass|overload|contextmanager")
BARRED_NODES = (
    ast.Import, ast.Global, ast.AsyncFunctionDef, ast.AsyncFor, ast.AsyncWith, ast.Await, ast.Div, ast.MatMult,
    ast.TryStar)


def nodes(kinds):
    for path in FILES:
        for node in ast.walk(ast.parse(path.read_text())):
            if isinstance(node, kinds):
                yield path.name, node


def bound_names(node):
    """The names that a statement at module level binds."""
    if isinstance(node, ast.ImportFrom):
        return [alias.asname or alias.name for alias in node.names]
    if isinstance(node, ast.Assign):
        return [part.id for target in node.targets for part in ast.walk(target) if isinstance(part, ast.Name)]
    return [node.name]


class LanguageTest(unittest.TestCase):
    def test_files(self):
        others = {path.name for path in PACKAGE.iterdir()} - {path.name for path in FILES} - {"__pycache__"}
        self.assertEqual(others, set())
        self.assertIn("__init__.py", {path.name for path in FILES})
        for path in FILES:
            self.assertRegex(path.stem, "^(__init__|[a-z][a-z0-9_]*)$")

    def test_characters_and_lines(self):
        for path in FILES:
            text = path.read_text()
            self.assertRegex(text, r"\A[ -~\n]*\Z", path.name)
            lines = text.splitlines()
            self.assertLessEqual(len(lines), 400, path.name)
            self.assertLessEqual(max(map(len, lines)), 120, path.name)
            self.assertIsNone(BARRED_WORDS.search(text), path.name)

    def test_functions_are_short(self):
        for name, node in nodes((ast.FunctionDef,)):
            self.assertLessEqual(node.end_lineno - node.lineno + 1, 40, (name, node.name))

    def test_imports(self):
        seen = {}
        for name, node in nodes((ast.ImportFrom,)):
            self.assertEqual(node.level, 0, name)
            self.assertRegex(node.module, r"^gaithold\.[a-z]+$", name)
            self.assertTrue(all(alias.name != "*" for alias in node.names), name)
            seen.setdefault(name, set()).add(node.module.partition(".")[2] + ".py")
        self.assertEqual(seen.get("errors.py"), None)
        while seen:
            # Files that import nothing unplaced go first; a circle leaves none of them.
            placed = [name for name in seen if not seen[name] & set(seen)]
            self.assertNotEqual(placed, [])
            seen = {name: seen[name] for name in seen if name not in placed}

    def test_imports_name_the_file_that_defines(self):
        defined = {}
        for path in FILES:
            body = [node for node in ast.parse(path.read_text()).body[1:] if not isinstance(node, ast.ImportFrom)]
            defined["gaithold." + path.stem] = {name for node in body for name in bound_names(node)}
        for name, node in nodes((ast.ImportFrom,)):
            self.assertLessEqual({alias.name for alias in node.names}, defined[node.module], (name, node.lineno))

    def test_stars_stand_before_names(self):
        # Narrower than the rules, which allow more in list and tuple literals.
        for name, node in nodes((ast.Starred,)):
            self.assertIsInstance(node.value, ast.Name, (name, node.lineno))

    def test_statements_and_signs(self):
        self.assertEqual([(name, ast.dump(node)) for name, node in nodes(BARRED_NODES)], [])

    def test_literals(self):
        for name, node in nodes((ast.Constant,)):
            self.assertNotIsInstance(node.value, (float, complex), (name, node.lineno))
            if isinstance(node.value, str):
                self.assertNotIn("%", node.value, (name, node.lineno))

    def test_names(self):
        for name, node in nodes((ast.Name, ast.arg, ast.Attribute, ast.ClassDef, ast.FunctionDef)):
            word = getattr(node, "id", None) or getattr(node, "arg", None) or getattr(node, "attr", None) or node.name
            if re.fullmatch("__(init|eq|repr|str|len)__", word) is None:
                self.assertRegex(word, "^[A-Za-z]", (name, node.lineno))

    def test_only_allowed_builtins(self):
        known = set(dir(__import__("builtins")))
        for name, node in nodes((ast.Name,)):
            if node.id in known:
                self.assertIn(node.id, BUILTINS, (name, node.lineno))
                self.assertIsInstance(node.ctx, ast.Load, (name, node.lineno))
        for name, node in nodes((ast.arg,)):
            self.assertNotIn(node.arg, known, (name, node.lineno))

    def test_module_level(self):
        kinds = (ast.ImportFrom, ast.FunctionDef, ast.ClassDef, ast.Assign)
        for path in FILES:
            tree = ast.parse(path.read_text())
            self.assertIsNotNone(ast.get_docstring(tree), path.name)
            names = []
            for node in tree.body[1:]:
                self.assertIsInstance(node, kinds, (path.name, node.lineno))
                names.extend(bound_names(node))
            self.assertEqual(sorted(names), sorted(set(names)), path.name)

    def test_no_local_name_hides_an_import_or_a_class(self):
        for path in FILES:
            tree = ast.parse(path.read_text())
            taken = [name for node in tree.body if isinstance(node, (ast.ImportFrom, ast.ClassDef)) for name in bound_names(node)]
            for node in ast.walk(tree):
                if isinstance(node, ast.arg):
                    self.assertNotIn(node.arg, taken, (path.name, node.lineno))
                if isinstance(node, ast.Name) and isinstance(node.ctx, ast.Store):
                    self.assertNotIn(node.id, taken, (path.name, node.lineno))

    def test_methods_and_attributes_have_different_names(self):
        methods = {part.name for _, node in nodes(ast.ClassDef) for part in node.body if isinstance(part, ast.FunctionDef)}
        attributes = {node.attr for _, node in nodes(ast.Attribute) if isinstance(node.ctx, ast.Store)}
        self.assertEqual(methods & attributes, set())
        plain_methods = {name for name in methods if not name.startswith("__")}
        for name in attributes | plain_methods:
            self.assertFalse(any(hasattr(kind, name) for kind in (int, str, bytes, list, tuple, dict, set)), name)

    def test_lists_instead_of_generators_and_sets(self):
        # Narrower than the rules, which allow some of these where no class has __eq__.
        kinds = (ast.GeneratorExp, ast.Set, ast.SetComp, ast.Yield, ast.YieldFrom)
        self.assertEqual([(name, node.lineno) for name, node in nodes(kinds)], [])

    def test_keywords_of_builtins(self):
        allowed = {("max", "default"), ("min", "default"), ("max", "key"), ("min", "key"), ("sorted", "key")}
        for name, node in nodes(ast.Call):
            if isinstance(node.func, ast.Name) and node.func.id in BUILTINS:
                for keyword in node.keywords:
                    self.assertIn((node.func.id, keyword.arg), allowed, (name, node.lineno))

    def test_double_underscore_methods(self):
        for name, node in nodes(ast.FunctionDef):
            if node.name in ("__eq__", "__len__", "__str__", "__repr__"):
                self.assertEqual([type(part) for part in node.body], [ast.Return], (name, node.lineno))

    def test_identity_only_with_constants(self):
        for name, node in nodes((ast.Compare,)):
            for sign, right in zip(node.ops, node.comparators):
                if isinstance(sign, (ast.Is, ast.IsNot)):
                    self.assertIsInstance(right, ast.Constant, (name, node.lineno))


if __name__ == "__main__":
    unittest.main()
