"""What the interface of the document lists: in which file, with which arguments, and in which class."""

import ast
import inspect
import unittest
from importlib import import_module
from pathlib import Path

PACKAGE = Path(__file__).resolve().parent.parent / "branchdues"
FUNCTIONS = {
    "protections": ["protected(tree, uses, top, kind)", "reclaimed(tree, uses, top, amount)",
                    "keeps(tree, uses, top, amount, name)"],
    "guarantees": ["least(tree, name, use, top, kind)", "near(tree, name, use, top, kind, gap)",
                   "greatest(tree, name, use, top, kind)", "safe(tree, name, top, kind)",
                   "raised(tree, name, top, kind, wanted)", "never_cut(tree, top, kind)", "cut_by(tree, top, kind)"],
    "limits": ["reach(tree)", "lets(tree, uses)", "binding(tree)", "bound_by(tree, name)", "same_limits(one, other)"],
    "budgets": ["passed(tree, wants)", "remains(tree, wants)", "waiting(tree, wants)", "all_met(tree, wants)",
                "unmet(tree, wants)", "least_burst(tree, wants, name)", "least_quota(tree, wants, name)",
                "most(tree, name, many)", "never_binds(tree)"],
    "sets": ["sets(tree, whole)", "stands_alone(tree, whole)"],
    "houses": ["is_row(thing)", "replayed(rows)"],
}
CLASSES = {
    ("trees", "Tree"): ["__init__(self, rows, handing=False)", "names(self)", "above(self, name)",
                        "children(self, name)", "leaves(self)", "path(self, name)", "due(self, name, word)",
                        "handing(self)", "with_due(self, name, word, value)", "__eq__(self, other)"],
    ("houses", "House"): ["__init__(self)", "do(self, row)", "use(self, group)", "pages(self, task)",
                          "tasks(self, group)", "group(self, task)", "count(self, group)", "is_frozen(self, task)",
                          "is_marked(self, group)", "due(self, group, word)", "owner(self, group)",
                          "children(self, group)", "events(self, group)", "ended(self)", "rows(self)", "copy(self)",
                          "__eq__(self, other)"],
}
ERRORS = ["DueError", "NoTree", "NoName", "NoWord", "NoDue", "NoUses", "NoKind", "NoAmount", "NoLeaves", "NoWants",
          "NoNumber", "NoSet", "NoRow", "Refused"]


class InterfaceTest(unittest.TestCase):
    def defined(self, name):
        """The functions and classes that a file defines itself."""
        tree = ast.parse((PACKAGE / f"{name}.py").read_text("utf-8"))
        return {node.name: node for node in tree.body if isinstance(node, (ast.FunctionDef, ast.ClassDef))}

    def test_functions(self):
        for name, functions in FUNCTIONS.items():
            module = import_module(f"branchdues.{name}")
            for function in functions:
                word = function.partition("(")[0]
                self.assertIn(word, self.defined(name))
                self.assertEqual(word + str(inspect.signature(getattr(module, word))), function)

    def test_classes(self):
        for (name, word), methods in CLASSES.items():
            node = self.defined(name)[word]
            inside = [one.name for one in node.body if isinstance(one, ast.FunctionDef)]
            found = getattr(import_module(f"branchdues.{name}"), word)
            for method in methods:
                one = method.partition("(")[0]
                self.assertIn(one, inside)
                self.assertEqual(one + str(inspect.signature(getattr(found, one))), method)

    def test_errors(self):
        self.assertEqual(list(self.defined("errors")), ERRORS)


if __name__ == "__main__":
    unittest.main()
