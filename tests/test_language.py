"""The rules of the language subset that can be seen from the code alone."""

import ast
import re
import unittest
from pathlib import Path

PACKAGE = Path(__file__).resolve().parent.parent / "branchdues"
BUILTINS = set(
    "len range enumerate zip min max sum abs sorted reversed int str bool list tuple dict set isinstance ord repr any "
    "all divmod Exception ValueError TypeError KeyError IndexError LookupError ZeroDivisionError".split())
METHODS = set(
    "append clear copy count endswith extend find get index insert isalnum isalpha isdigit islower isspace isupper "
    "items join keys ljust lower lstrip partition pop remove replace reverse rfind rjust rpartition rsplit rstrip "
    "setdefault split splitlines startswith strip update upper values zfill bit_length".split())
BARRED = re.compile(
    r"\b(type|typing|typing_extensions|enum|Enum|IntEnum|StrEnum|Flag|IntFlag|Generic|Protocol|ABC|ABCMeta|namedtuple|"
    r"NamedTuple|TypedDict|TYPE_CHECKING|abstractmethod|register|mro|elements|open|input|law|version_info)\b"
    r"|dataclass|overload|contextmanager")
SPECIAL = ("__init__", "__eq__")
NOT_ALLOWED = (
    ast.Global, ast.AsyncFunctionDef, ast.Await, ast.Set, ast.SetComp, ast.Div, ast.JoinedStr, ast.Try, ast.Lambda,
    ast.AnnAssign, ast.Import, ast.Yield, ast.With, ast.Match, ast.NamedExpr)


class LanguageTest(unittest.TestCase):
    def files(self):
        for path in sorted(PACKAGE.rglob("*")):
            if "__pycache__" not in path.parts:
                with self.subTest(path.name):
                    self.assertTrue(path.is_file() and re.fullmatch(r"[a-z_]+\.py", path.name))
                    text = path.read_text("utf-8")
                    yield path, text, ast.parse(text)

    def test_sizes_and_characters(self):
        for path, text, tree in self.files():
            self.assertLess(len(text.splitlines()), 400)
            self.assertLessEqual(max(len(line) for line in text.splitlines()), 120)
            self.assertIsNone(re.search(r"[^ -~\n]", text))
            for node in ast.walk(tree):
                if isinstance(node, ast.FunctionDef):
                    self.assertLessEqual(node.end_lineno - node.lineno + 1, 40, node.name)

    def test_words(self):
        for path, text, tree in self.files():
            self.assertIsNone(BARRED.search(text))

    def test_statements(self):
        for path, text, tree in self.files():
            for node in ast.walk(tree):
                self.assertNotIsInstance(node, NOT_ALLOWED, ast.dump(node))
                if isinstance(node, ast.ImportFrom):
                    self.assertTrue(node.level == 0 and node.module.startswith("branchdues."))
                if isinstance(node, (ast.FunctionDef, ast.ClassDef)):
                    self.assertEqual(node.decorator_list, [])
                if isinstance(node, ast.Constant):
                    self.assertNotIsInstance(node.value, (float, complex))
                    self.assertFalse(isinstance(node.value, str) and "%" in node.value)
                if isinstance(node, ast.Compare) and any(isinstance(one, (ast.Is, ast.IsNot)) for one in node.ops):
                    self.assertIsInstance(node.comparators[0], ast.Constant)

    def test_names(self):
        for path, text, tree in self.files():
            for node in ast.walk(tree):
                name = getattr(node, "id", None) or getattr(node, "arg", None) or getattr(node, "attr", None)
                if isinstance(node, (ast.FunctionDef, ast.ClassDef)):
                    name = node.name
                if name is not None and name not in SPECIAL:
                    self.assertFalse(name.startswith("_"), name)

    def test_calls(self):
        own = {}
        for path, text, tree in self.files():
            for node in ast.walk(tree):
                if isinstance(node, (ast.FunctionDef, ast.ClassDef)):
                    own[node.name] = True
        for path, text, tree in self.files():
            for node in ast.walk(tree):
                if isinstance(node, ast.Call):
                    called = node.func
                    if isinstance(called, ast.Name):
                        known = called.id in own or called.id in BUILTINS or called.id in self.taken_from_tables(tree)
                        self.assertTrue(known, called.id)
                    else:
                        self.assertIsInstance(called, ast.Attribute)
                        self.assertTrue(called.attr in own or called.attr in METHODS, called.attr)

    def taken_from_tables(self, tree):
        """The local names that are given a function out of a table of the module."""
        found = []
        for node in ast.walk(tree):
            if isinstance(node, ast.Assign) and isinstance(node.value, ast.Subscript):
                table = node.value.value
                if isinstance(table, ast.Name) and table.id.isupper() and isinstance(node.targets[0], ast.Name):
                    found.append(node.targets[0].id)
        return found

    def test_names_of_imports_and_classes_are_given_to_nothing_else(self):
        for path, text, tree in self.files():
            taken = [alias.name for node in tree.body if isinstance(node, ast.ImportFrom) for alias in node.names]
            taken += [node.name for node in tree.body if isinstance(node, (ast.ClassDef, ast.FunctionDef))]
            self.assertEqual(len(set(taken)), len(taken))
            for node in ast.walk(tree):
                given = node.arg if isinstance(node, ast.arg) else None
                if isinstance(node, ast.Name) and isinstance(node.ctx, ast.Store):
                    given = node.id
                self.assertNotIn(given, taken)

    def test_imports_are_used_and_go_one_way(self):
        order = {}
        for path, text, tree in self.files():
            order[path.stem] = []
            for node in tree.body:
                if isinstance(node, ast.ImportFrom):
                    order[path.stem].append(node.module.split(".")[1])
                    for alias in node.names:
                        used = [one for one in ast.walk(tree) if isinstance(one, ast.Name) and one.id == alias.name]
                        self.assertTrue(used, alias.name)
        while order:
            free = [name for name in order if not [one for one in order[name] if one in order]]
            self.assertTrue(free, order)
            for name in free:
                del order[name]

    def test_builtins_take_lists(self):
        """Beside a class that compares, no generator expression is handed in."""
        for path, text, tree in self.files():
            for node in ast.walk(tree):
                self.assertNotIsInstance(node, ast.GeneratorExp)

    def test_names_of_builtins_are_given_to_nothing_else(self):
        import builtins
        for path, text, tree in self.files():
            for node in ast.walk(tree):
                given = getattr(node, "name", None) or getattr(node, "arg", None)
                if isinstance(node, ast.Name) and isinstance(node.ctx, ast.Store):
                    given = node.id
                self.assertFalse(isinstance(given, str) and given in dir(builtins), given)

    def test_a_name_is_a_method_or_an_attribute(self):
        methods, attributes = {}, {}
        for path, text, tree in self.files():
            for node in ast.walk(tree):
                if isinstance(node, ast.ClassDef):
                    methods.update({one.name: True for one in node.body if isinstance(one, ast.FunctionDef)})
                if isinstance(node, ast.Attribute) and isinstance(node.ctx, ast.Store):
                    attributes[node.attr] = True
        self.assertEqual(set(methods) & set(attributes), set())
        self.assertEqual(set(attributes) & METHODS, set())


if __name__ == "__main__":
    unittest.main()
