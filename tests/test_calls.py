"""[2]: arguments by name, what is handed in stays, what is told is new, and the same call tells the same."""

import copy
import unittest
from fractions import Fraction

from branchdues.guarantees import cut_by, greatest, least, near, never_cut, raised, safe
from branchdues.protections import keeps, protected, reclaimed
from branchdues.trees import Tree
from helper import row, uses_of

ROWS = [
    row("p", min=10, low=4), row("q", min=1), row("a", "p", min=4, low=2), row("b", "p", min=9), row("c", "a", min=3),
    row("d", "a", min=Fraction(1, 3)), row("e", "q"),
]


def calls(handing):
    """Each function with arguments by name, all of them new."""
    given = {
        "tree": Tree(ROWS, handing), "uses": uses_of(b=9, c=5, d=Fraction(1, 2), e=4), "top": "", "kind": "min",
        "name": "c", "use": (7, 2), "amount": (9, 1), "gap": (1, 7), "wanted": (5, 1),
    }
    wanted = {
        protected: "tree uses top kind", reclaimed: "tree uses top amount", keeps: "tree uses top amount name",
        least: "tree name use top kind", near: "tree name use top kind gap", greatest: "tree name use top kind",
        safe: "tree name top kind", raised: "tree name top kind wanted", never_cut: "tree top kind",
        cut_by: "tree top kind",
    }
    found = []
    for function, words in wanted.items():
        found.append((function, {word: copy.deepcopy(given[word]) for word in words.split()}))
    return found


def parts_of(thing):
    """The lists and dicts in what was told."""
    if isinstance(thing, tuple):
        return [part for inner in thing for part in parts_of(inner)]
    return [thing] if isinstance(thing, (dict, list)) else []


class CallsTest(unittest.TestCase):
    def all_calls(self):
        for handing in (False, True):
            for function, told in calls(handing):
                with self.subTest(function.__name__, handing=handing):
                    yield function, told

    def test_by_name_and_by_position(self):
        for function, told in self.all_calls():
            wanted = function(*told.values())
            self.assertEqual(function(**told), wanted)
            self.assertEqual(function(**dict(reversed(told.items()))), wanted)

    def test_the_same_again(self):
        for function, told in self.all_calls():
            wanted = function(**told)
            self.assertEqual(function(**told), wanted)
            self.assertEqual(repr(parts_of(function(**told))), repr(parts_of(wanted)))

    def test_nothing_is_changed(self):
        for function, told in self.all_calls():
            before = copy.deepcopy(told)
            function(**told)
            self.assertEqual(told, before)
            self.assertEqual(repr(told.get("uses")), repr(before.get("uses")))

    def test_what_is_told_is_new(self):
        for function, told in self.all_calls():
            wanted = copy.deepcopy(function(**told))
            for part in parts_of(function(**told)):
                part.clear()
            self.assertEqual(function(**told), wanted)

    def test_what_was_handed_in_may_be_changed(self):
        for function, told in self.all_calls():
            if "uses" in told:
                found = function(**told)
                wanted = copy.deepcopy(found)
                told["uses"].clear()
                told["uses"]["b"] = (1, 1)
                self.assertEqual(found, wanted)

    def test_told_uses_are_not_the_ones_handed_in(self):
        tree = Tree(ROWS)
        uses = {leaf: (0, 1) for leaf in tree.leaves()}
        left, rest = reclaimed(tree, uses, "", (0, 1))
        self.assertIsNot(left, uses)
        left["b"] = (1, 1)
        self.assertEqual(uses["b"], (0, 1))

    def test_kinds_of_what_is_told(self):
        for function, told in self.all_calls():
            found = function(**told)
            kinds = {
                protected: dict, reclaimed: tuple, keeps: bool, least: tuple, near: dict, greatest: tuple, safe: tuple,
                raised: Tree, never_cut: bool, cut_by: dict,
            }
            self.assertIs(type(found), kinds[function])


if __name__ == "__main__":
    unittest.main()
