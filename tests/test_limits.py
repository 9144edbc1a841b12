"""Promises [17] to [19]: what limits let by, which of them bind, and which trees let the same by."""

import unittest
from fractions import Fraction
from itertools import product
from random import Random

from branchdues.limits import binding, bound_by, lets, reach, same_limits
from branchdues.trees import Tree
from helper import (
    INFINITY, due_of, leaves_of, number_of, random_budgets, random_shape, random_uses, row, told, use_in, uses_of)

HALF = Fraction(1, 2)
TINY = Fraction(1, 10 ** 300)


def plain_reach(tree, name):
    below = [plain_reach(tree, child) for child in tree.children(name)]
    return min([due_of(tree, name, "max")] + ([sum(below)] if below else []))


def plainly_let(tree, uses):
    return all(use_in(tree, uses, name) <= due_of(tree, name, "max") for name in tree.names())


def is_bound(tree, uses, name):
    """What the document says of the uses with which a limit binds, word by word."""
    room = {one: due_of(tree, one, "max") - use_in(tree, uses, one) for one in tree.names()}
    if not plainly_let(tree, uses) or use_in(tree, uses, name) != due_of(tree, name, "max"):
        return False
    if any(room[above] <= 0 for above in tree.path(name)[1:]):
        return False
    if not tree.children(name):
        return True
    for leaf in leaves_of(tree, name):
        path = tree.path(leaf)
        if all(room[one] > 0 for one in path[:path.index(name)]):
            return True
    return False


def grid(tree, most):
    """All uses in whole numbers up to this one."""
    leaves = tree.leaves()
    for numbers in product(range(most + 1), repeat=len(leaves)):
        yield {leaf: told(number) for leaf, number in zip(leaves, numbers)}


def small_tree(random, leaves=None):
    """Few leaves, and whole limits up to 3."""
    while True:
        shape = random_shape(random, 6)
        ends = [name for name, above in shape if name not in [up for one, up in shape]]
        if leaves is None and len(ends) <= 3:
            break
        if leaves is not None and len(ends) == len(leaves):
            names = dict(zip(ends, random.sample(leaves, len(leaves))))
            shape = [(names.get(name, name * 2), above * 2) for name, above in shape]
            break
    return Tree([row(name, above, max=random.choice([0, 1, 2, 3, 3, "endless"])) for name, above in shape])


class ReachTest(unittest.TestCase):
    def check(self, rows, **wanted):
        found = reach(Tree(rows))
        wanted = {name: told(one) if one != "endless" else one for name, one in wanted.items()}
        self.assertEqual(repr(found), repr(wanted))

    def test_leaves_and_groups(self):
        rows = [row("p", max=10), row("a", "p", max=6), row("b", "p", max=7), row("c", max=HALF)]
        self.check(rows, p=10, a=6, b=7, c=HALF)
        self.check([row("p", max=20)] + rows[1:], p=13, a=6, b=7, c=HALF)
        self.check([row("p", max=13)] + rows[1:], p=13, a=6, b=7, c=HALF)

    def test_endless(self):
        rows = [row("p"), row("a", "p", max=6), row("b", "p"), row("q", max=4), row("c", "q"), row("d", "q")]
        self.check(rows, p="endless", a=6, b="endless", q=4, c="endless", d="endless")
        self.check([row("p"), row("a", "p", max=6), row("b", "p", max=HALF)], p=6 + HALF, a=6, b=HALF)

    def test_several_levels(self):
        rows = [
            row("p", max=9), row("q", "p"), row("a", "q", max=2), row("b", "q", max=3), row("r", "p", max=1),
            row("c", "r"), row("s", "r", max=7), row("d", "s", max=5),
        ]
        self.check(rows, p=6, q=5, a=2, b=3, r=1, c="endless", s=5, d=5)

    def test_limits_of_0(self):
        rows = [row("p"), row("a", "p", max=0), row("q", "p", max=0), row("b", "q"), row("c", "q", max=4)]
        self.check(rows, p=0, a=0, q=0, b="endless", c=4)

    def test_no_groups(self):
        self.check([])

    def test_like_a_plain_reckoning(self):
        random = Random(1)
        for turn in range(500):
            tree = random_budgets(random)
            found = reach(tree)
            self.assertEqual(list(found), tree.names())
            self.assertEqual({name: number_of(found[name]) for name in found},
                             {name: plain_reach(tree, name) for name in tree.names()})


class LetsTest(unittest.TestCase):
    rows = [row("p", max=10), row("a", "p", max=6), row("b", "p"), row("c", max=0), row("d")]

    def check(self, wanted, **uses):
        self.assertIs(lets(Tree(self.rows), uses_of(**uses)), wanted)

    def test_a_leaf(self):
        self.check(True, a=6)
        self.check(True, a=6 - TINY)
        self.check(False, a=6 + TINY)
        self.check(False, a=7)
        self.check(True, c=0)
        self.check(False, c=TINY)
        self.check(True, d=10 ** 300)

    def test_a_group(self):
        self.check(True, a=5, b=5)
        self.check(True, a=5, b=5 - TINY)
        self.check(False, a=5, b=5 + TINY)
        self.check(False, b=11)
        self.check(True, a=Fraction(10, 3), b=Fraction(20, 3))

    def test_nothing(self):
        self.check(True)
        self.assertIs(lets(Tree([]), {}), True)

    def test_like_a_plain_reckoning(self):
        random = Random(2)
        seen = {True: 0, False: 0}
        for turn in range(1000):
            tree = random_budgets(random)
            uses = random_uses(random, tree)
            found = lets(tree, uses)
            seen[found] += 1
            self.assertIs(found, plainly_let(tree, uses))
        self.assertGreater(min(seen.values()), 100)


class BindingTest(unittest.TestCase):
    def check(self, rows, *wanted):
        tree = Tree(rows)
        self.assertEqual(binding(tree), list(wanted))
        for name in tree.names():
            uses = bound_by(tree, name)
            if name in wanted:
                self.assertTrue(lets(tree, uses))
                self.assertTrue(is_bound(tree, uses, name), (name, uses))
            else:
                self.assertIsNone(uses)

    def test_leaves(self):
        self.check([row("a", max=3), row("b"), row("c", max=0)], "a", "c")
        self.check([])

    def test_like_limits_over_the_same_leaves(self):
        self.check([row("p", max=5), row("a", "p", max=5)])
        self.check([row("p", max=5), row("q", "p", max=5), row("a", "q"), row("b", "q")])
        self.check([row("p", max=5), row("a", "p", max=3), row("b", "p", max=2)], "a", "b")

    def test_limits_above(self):
        for above, wanted in ((4, ["p"]), (5, ["p"]), (5 + TINY, ["p", "q"]), (6, ["p", "q"]), ("endless", ["q"])):
            rows = [row("p", max=above), row("q", "p", max=5), row("a", "q"), row("b", "q"), row("c", "p")]
            self.check(rows, *wanted)

    def test_what_the_children_reach(self):
        for limit, wanted in ((6, ["p", "a", "b"]), (7, ["a", "b"]), (7 - TINY, ["p", "a", "b"]), (8, ["a", "b"])):
            self.check([row("p", max=limit), row("a", "p", max=3), row("b", "p", max=4)], *wanted)
        self.check([row("p", max=8), row("q", "p", max=2), row("a", "q", max=3), row("b", "p", max=4)], "q", "b")

    def test_endless_ones(self):
        self.check([row("p"), row("a", "p"), row("b", "p")])
        self.check([row("p", max=8), row("q", "p"), row("a", "q"), row("b", "q", max=3)], "p", "b")

    def test_limits_of_0(self):
        self.check([row("p", max=0), row("a", "p", max=3), row("b", "p")], "p")
        self.check([row("p", max=0), row("a", "p", max=0)])
        self.check([row("p", max=5), row("q", "p", max=0), row("a", "q", max=0), row("b", "q", max=1)], "q")
        self.check([row("p", max=5), row("a", "p", max=0), row("b", "p", max=0)], "a", "b")

    def test_only_children(self):
        self.check([row("p", max=5), row("q", "p", max=4), row("a", "q", max=3)], "a")
        self.check([row("p", max=3), row("q", "p", max=4), row("a", "q", max=5)], "p")
        self.check([row("p", max=4), row("q", "p", max=3), row("a", "q", max=4)], "q")
        self.check([row("p", max=4), row("q", "p"), row("a", "q")], "p")

    def test_like_a_plain_reckoning(self):
        random = Random(3)
        for turn in range(500):
            tree = random_budgets(random)
            wanted = []
            for name in tree.names():
                below = [plain_reach(tree, child) for child in tree.children(name)]
                own = due_of(tree, name, "max")
                if own < (sum(below) if below else INFINITY):
                    if all(own < due_of(tree, above, "max") for above in tree.path(name)[1:]):
                        wanted.append(name)
            dues = {name: (("max", tree.due(name, "max")),) for name in tree.names()}
            self.check([(name, tree.above(name), dues[name]) for name in tree.names()], *wanted)

    def test_all_uses(self):
        """With whole limits, whole uses show all that binds."""
        random = Random(4)
        for turn in range(60):
            tree = small_tree(random)
            bound = {name: True for uses in grid(tree, 4) for name in tree.names() if is_bound(tree, uses, name)}
            self.assertEqual(binding(tree), [name for name in tree.names() if name in bound])


class SameLimitsTest(unittest.TestCase):
    def same(self, one, other):
        self.assertIsNone(same_limits(Tree(one), Tree(other)))
        self.assertIsNone(same_limits(Tree(other), Tree(one)))

    def differ(self, one, other):
        one, other = Tree(one), Tree(other)
        for first, second in ((one, other), (other, one)):
            uses = same_limits(first, second)
            self.assertIs(type(uses), dict)
            self.assertNotEqual(lets(first, uses), lets(second, uses))

    def test_other_shapes(self):
        leaves = [row("a", max=3), row("b", max=4)]
        self.same([row("p"), row("a", "p", max=3), row("b", "p", max=4)], leaves)
        self.same([row("p", max=7), row("a", "p", max=3), row("b", "p", max=4)], leaves)
        self.same([row("p", max=5), row("a", "p", max=5)], [row("a", max=5)])
        self.same([row("p", max=5), row("q", "p", max=9), row("a", "q")], [row("r"), row("a", "r", max=5)])
        self.same([row("p", max=5), row("a", "p", max=3), row("b", "p", max=9)],
                  [row("p", max=9), row("q", "p", max=5), row("a", "q", max=3), row("b", "q")])
        self.same([], [])

    def test_other_orders_and_names(self):
        one = [row("p", max=5), row("a", "p", max=3), row("b", "p"), row("q", max=2), row("c", "q"), row("d", "q")]
        other = [row("x", max=2), row("y", max=5), row("d", "x"), row("b", "y"), row("c", "x"), row("a", "y", max=3)]
        self.same(one, other)
        self.same(one, one)

    def test_limits_that_cannot_be_reached(self):
        one = [row("p", max=6), row("a", "p", max=3), row("b", "p", max=3)]
        self.same(one, [row("p", max=7)] + one[1:])
        self.differ(one, [row("p", max=6 - TINY)] + one[1:])
        self.same([row("p", max=0), row("a", "p", max=3), row("b", "p")], [row("a", max=0), row("b", max=0)])

    def test_leaves(self):
        self.differ([row("a", max=5)], [row("a", max=6)])
        self.differ([row("a", max=5)], [row("a", max=5 + TINY)])
        self.differ([row("a", max=5), row("b")], [row("a"), row("b")])
        self.differ([row("a", max=0)], [row("a", max=TINY)])

    def test_groups_of_leaves(self):
        leaves = [row("a", "p", max=3), row("b", "p", max=4), row("c")]
        self.differ([row("p", max=6)] + leaves, [row("p")] + leaves)
        self.differ([row("p", max=6)] + leaves, [row("p", max=6 + TINY)] + leaves)
        self.differ([row("p", max=6)] + leaves, [row("a", max=3), row("b", max=4), row("c")])
        # Each leaf and both pairs may use the same, but not all three together.
        one = [row("p", max=5), row("a", "p", max=3), row("b", "p", max=3), row("c", "p", max=0)]
        self.differ(one, [row("a", max=3), row("q", max=3), row("b", "q", max=3), row("c", "q", max=0)])
        one = [row("p", max=8), row("a", "p", max=3), row("b", "p", max=3), row("c", "p", max=3)]
        self.differ(one, [row("p")] + one[1:])

    def test_other_pairs(self):
        leaves = [row("a", "p"), row("b", "p"), row("c", "q"), row("d", "q")]
        others = [row("a", "p"), row("c", "p"), row("b", "q"), row("d", "q")]
        self.differ([row("p", max=5), row("q", max=5)] + leaves, [row("p", max=5), row("q", max=5)] + others)

    def test_one_limit_is_endless(self):
        leaves = [row("a", "p", max=3), row("b", "p")]
        self.differ([row("p", max=6)] + leaves, [row("p")] + leaves)
        self.differ([row("p"), row("a", "p"), row("b", "p")], [row("a"), row("q", max=10 ** 300), row("b", "q")])

    def test_like_many_uses(self):
        """With whole limits, whole uses show all differences."""
        random = Random(5)
        seen = {True: 0, False: 0}
        for turn in range(400):
            leaves = list("xyz"[:random.randrange(1, 4)])
            one, other = small_tree(random, leaves), small_tree(random, leaves)
            same = all(plainly_let(one, uses) == plainly_let(other, uses) for uses in grid(one, 4))
            seen[same] += 1
            uses = same_limits(one, other)
            self.assertEqual(uses is None, same)
            if not same:
                self.assertNotEqual(plainly_let(one, uses), plainly_let(other, uses))
        self.assertGreater(min(seen.values()), 30)


if __name__ == "__main__":
    unittest.main()
