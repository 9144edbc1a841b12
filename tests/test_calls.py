"""[2]: arguments by name, what is handed in stays, what is told is new, and the same call tells the same."""

import copy
import unittest
from fractions import Fraction

from branchdues.budgets import (
    all_met, least_burst, least_quota, most, never_binds, passed, remains, unmet, waiting)
from branchdues.guarantees import cut_by, greatest, least, near, never_cut, raised, safe
from branchdues.limits import binding, bound_by, lets, reach, same_limits
from branchdues.protections import keeps, protected, reclaimed
from branchdues.sets import sets, stands_alone
from branchdues.trees import Tree
from helper import row, uses_of

ROWS = [
    row("p", min=10, low=4, max=9, quota=4, burst=2, sets=(0, 1), alone=1), row("q", min=1, max=7),
    row("a", "p", min=4, low=2, max=4, quota=5), row("b", "p", min=9, sets=(0,), alone=1), row("c", "a", min=3, tops=9),
    row("d", "a", min=Fraction(1, 3), max=Fraction(5, 2)), row("e", "q", quota=3, burst=1, tops=2),
]

# The words of the arguments of each function, and the kind of what it tells.
CALLS = {
    protected: ("tree uses top kind", dict), reclaimed: ("tree uses top amount", tuple),
    keeps: ("tree uses top amount name", bool), least: ("tree name use top kind", tuple),
    near: ("tree name use top kind gap", dict), greatest: ("tree name use top kind", tuple),
    safe: ("tree name top kind", tuple), raised: ("tree name top kind wanted", Tree),
    never_cut: ("tree top kind", bool), cut_by: ("tree top kind", dict),
    reach: ("tree", dict), lets: ("tree uses", bool), binding: ("tree", list), bound_by: ("tree name", dict),
    same_limits: ("one other", dict), passed: ("tree wants", list), remains: ("tree wants", list),
    waiting: ("tree wants", list), all_met: ("tree wants", bool), unmet: ("tree wants", tuple),
    least_burst: ("tree wants name", tuple), least_quota: ("tree wants name", tuple), most: ("tree name many", tuple),
    never_binds: ("tree", list), sets: ("tree whole", dict), stands_alone: ("tree whole", list),
}


def calls(handing):
    """Each function with arguments by name, all of them new."""
    given = {
        "tree": Tree(ROWS, handing), "uses": uses_of(b=9, c=5, d=Fraction(1, 2), e=4), "top": "", "kind": "min",
        "name": "c", "use": (7, 2), "amount": (9, 1), "gap": (1, 7), "wanted": (5, 1), "one": Tree(ROWS, handing),
        "other": Tree(ROWS).with_due("d", "max", (2, 1)), "many": 3, "whole": (0, 1, 2, 3),
        "wants": [uses_of(b=3, c=1, e=1), {}, uses_of(c=Fraction(5, 2), d=3, e=2), uses_of(b=9)],
    }
    found = []
    for function, (words, kind) in CALLS.items():
        named = {word: copy.deepcopy(given[word]) for word in words.split()}
        if function == bound_by:
            named["name"] = "p"
        found.append((function, named))
    return found


def parts_of(thing):
    """The lists and dicts in what was told, the inner ones first."""
    found = []
    if isinstance(thing, (tuple, list, dict)):
        for inner in thing.values() if isinstance(thing, dict) else thing:
            found += parts_of(inner)
    return found + [thing] if isinstance(thing, (dict, list)) else found


class CallsTest(unittest.TestCase):
    def all_calls(self):
        for handing in (False, True):
            for function, told in calls(handing):
                with self.subTest(function.__name__, handing=handing):
                    yield function, told

    def test_by_name_and_by_position(self):
        for function, told in self.all_calls():
            wanted = function(*told.values())
            self.assertEqual(function(**told), wanted)
            self.assertEqual(function(**dict(reversed(told.items()))), wanted)

    def test_the_same_again(self):
        for function, told in self.all_calls():
            wanted = function(**told)
            self.assertEqual(function(**told), wanted)
            self.assertEqual(repr(parts_of(function(**told))), repr(parts_of(wanted)))

    def test_nothing_is_changed(self):
        for function, told in self.all_calls():
            before = copy.deepcopy(told)
            function(**told)
            self.assertEqual(told, before)
            for word in ("uses", "wants"):
                self.assertEqual(repr(told.get(word)), repr(before.get(word)))

    def test_what_is_told_is_new(self):
        for function, told in self.all_calls():
            wanted = copy.deepcopy(function(**told))
            for part in parts_of(function(**told)):
                part.clear()
            self.assertEqual(function(**told), wanted)

    def test_what_was_handed_in_may_be_changed(self):
        for function, told in self.all_calls():
            found = function(**told)
            wanted = copy.deepcopy(found)
            for part in parts_of(list(told.values())):
                part.clear()
            self.assertEqual(found, wanted)

    def test_told_uses_are_not_the_ones_handed_in(self):
        tree = Tree(ROWS)
        uses = {leaf: (0, 1) for leaf in tree.leaves()}
        left, rest = reclaimed(tree, uses, "", (0, 1))
        self.assertIsNot(left, uses)
        left["b"] = (1, 1)
        self.assertEqual(uses["b"], (0, 1))

    def test_kinds_of_what_is_told(self):
        for function, told in self.all_calls():
            self.assertIs(type(function(**told)), CALLS[function][1])


if __name__ == "__main__":
    unittest.main()
