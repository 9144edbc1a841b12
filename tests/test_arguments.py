"""Wrong arguments of limits, budgets and sets: which error is raised, and which argument comes first."""

import unittest

from branchdues.budgets import (
    all_met, least_burst, least_quota, most, never_binds, passed, remains, unmet, waiting)
from branchdues.errors import NoLeaves, NoName, NoNumber, NoSet, NoTree, NoUses, NoWants
from branchdues.limits import binding, bound_by, lets, reach, same_limits
from branchdues.sets import sets, stands_alone
from branchdues.trees import Tree
from helper import NO_AMOUNTS, behinds, odd_things, row

NO_WHOLES = [
    (), (-1,), (64,), (1, 1), (2, 1), (True,), (0, True), (1.0,), ("1",), (None,), ([],), ({},), ((1,),), [0, 1], [0],
    {0}, range(3), 0, 3, "", "endless", None, b"\x00\x01", frozenset((1,)), {1: 1}, (0, 1, 64), (0, 2, 1),
]


class ArgumentsTest(unittest.TestCase):
    def setUp(self):
        self.tree = Tree([row("p", max=5, quota=2), row("a", "p", max=2), row("b", "p"), row("c")])
        self.good = {
            reach: [self.tree], lets: [self.tree, {}], binding: [self.tree], bound_by: [self.tree, "p"],
            same_limits: [self.tree, self.tree], passed: [self.tree, [{}]], remains: [self.tree, [{}]],
            waiting: [self.tree, [{}]], all_met: [self.tree, [{}]], unmet: [self.tree, [{}]],
            least_burst: [self.tree, [{}], "p"], least_quota: [self.tree, [{}], "p"], most: [self.tree, "p", 1],
            never_binds: [self.tree], sets: [self.tree, (0, 1)], stands_alone: [self.tree, (0, 1)],
        }

    def wrong(self, functions, place, things, error, at=None):
        """The thing is wrong at its place, whatever stands behind it."""
        for function in functions:
            good = self.good[function]
            for thing in things:
                for behind in behinds(good[place + 1:]):
                    with self.subTest(function.__name__, thing=repr(thing)):
                        with self.assertRaises(error) as caught:
                            function(*good[:place], thing, *behind)
                        self.assertIs(type(caught.exception), error)
                        if at is not None:
                            self.assertEqual(caught.exception.at, at)

    def test_good_ones(self):
        for function, good in self.good.items():
            function(*good)

    def test_no_tree(self):
        things = [thing for thing in odd_things() if not isinstance(thing, Tree)] + [[row("p")], self.tree.names()]
        self.wrong(list(self.good), 0, things, NoTree, at=-1)
        self.wrong([same_limits], 1, things, NoTree, at=-1)

    def test_other_leaves(self):
        others = [
            Tree([]), Tree([row("a"), row("b")]), Tree([row("a"), row("b"), row("c"), row("d")]),
            Tree([row("a"), row("b"), row("d")]), Tree([row("p"), row("a", "p"), row("b", "a"), row("c")]),
        ]
        self.wrong([same_limits], 1, others, NoLeaves)
        for other in others:
            with self.assertRaises(NoLeaves):
                same_limits(other, self.tree)
            self.assertIsNone(same_limits(other, other))
        self.assertIsNone(same_limits(Tree([row("c"), row("a"), row("b")]), Tree([row("b"), row("a"), row("c")])))

    def test_no_uses(self):
        things = [thing for thing in odd_things() if not isinstance(thing, dict) or thing]
        keys = ("p", "", "x", "A", None, 0, True, (1, 1), ("a",), b"a", frozenset("a"), Tree)
        things += [{key: (1, 1)} for key in keys] + [{"a": thing} for thing in NO_AMOUNTS]
        things += [{"a": (1, 1), "c": (1, 1), "p": (0, 1)}, {"a": (1, 1), "b": None}, [("a", (1, 1))]]
        self.wrong([lets], 1, things, NoUses)

    def test_no_wants(self):
        things = [thing for thing in odd_things() if not isinstance(thing, list) or thing]
        items = [thing for thing in odd_things() if not isinstance(thing, dict) or thing]
        keys = ("p", "", "x", "A", None, 0, True, (1, 1), ("a",), b"a", frozenset("a"), Tree)
        items += [{key: (1, 1)} for key in keys] + [{"a": thing} for thing in NO_AMOUNTS]
        items += [{"a": (1, 1), "c": (1, 1), "p": (0, 1)}, {"a": (1, 1), "b": "endless"}, [("a", (1, 1))]]
        for item in items:
            things += [[item], [{}, {"a": (1, 1)}, item], [item, {}], ({"a": (1, 1)},), {"a": (1, 1)}]
        functions = [passed, remains, waiting, all_met, unmet, least_burst, least_quota]
        self.wrong(functions, 1, things, NoWants)

    def test_no_group(self):
        things = [thing for thing in odd_things() if not isinstance(thing, str) or thing != "p"] + ["", "x", "A", "pp"]
        self.wrong([bound_by, most], 1, things, NoName)
        self.wrong([least_burst, least_quota], 2, things, NoName)

    def test_no_number(self):
        things = [thing for thing in odd_things() if type(thing) is not int or thing < 1]
        things += [0, -1, -10 ** 300, True, False, 1.0, 2.5, "1", None, (1, 1), [1], {}, "endless"]
        self.wrong([most], 2, things, NoNumber)
        for many in (1, 2, 10 ** 300):
            self.assertEqual(most(self.tree, "p", many), (2 * many, 1))

    def test_no_set(self):
        things = NO_WHOLES + [thing for thing in odd_things() if thing != (0,)]
        self.wrong([sets, stands_alone], 1, things, NoSet)
        for whole in ((0,), (63,), tuple(range(64)), (3, 5)):
            self.assertEqual(sets(self.tree, whole), {name: whole for name in self.tree.names()})


if __name__ == "__main__":
    unittest.main()
