"""Promises [5] to [9]: what is protected, and what a reclaim takes."""

import unittest
from fractions import Fraction
from random import Random

from branchdues.errors import NoAmount, NoKind, NoName, NoTree, NoUses
from branchdues.protections import keeps, protected, reclaimed
from branchdues.trees import Tree
from helper import (
    NO_AMOUNTS, behinds, leaves_of, odd_things, plainly_protected, plainly_reclaimed, random_number, random_top,
    random_tree, random_uses, row, told, uses_of)

HALF = Fraction(1, 2)
THIRD = Fraction(1, 3)


class ProtectedTest(unittest.TestCase):
    def check(self, rows, uses, wanted, top="", kind="min", handing=False):
        found = protected(Tree(rows, handing), uses_of(**uses), top, kind)
        self.assertEqual(repr(found), repr(uses_of(**wanted)))

    def test_a_claim_is_the_lesser_of_use_and_setting(self):
        rows = [row("a", min=5), row("b", min=5), row("c", min=0), row("d")]
        self.check(rows, {"a": 3, "b": 7, "c": 2, "d": 2}, {"a": 3, "b": 5, "c": 0, "d": 0})

    def test_no_groups(self):
        self.check([], {}, {})

    def test_claims_that_are_cut(self):
        rows = [row("p", min=10), row("a", "p", min=5), row("b", "p", min=20), row("c", "p", min=1)]
        for handing in (False, True):
            self.check(rows, {"a": 5, "b": 20}, {"p": 10, "a": 2, "b": 8, "c": 0}, handing=handing)
            self.check(rows, {"a": 30, "b": 30}, {"p": 10, "a": 2, "b": 8, "c": 0}, handing=handing)

    def test_claims_that_just_fit(self):
        rows = [row("p", min=10), row("a", "p", min=4), row("b", "p", min=6)]
        for handing in (False, True):
            self.check(rows, {"a": 9, "b": 9}, {"p": 10, "a": 4, "b": 6}, handing=handing)

    def test_what_is_unclaimed_is_handed_on_or_not(self):
        rows = [row("p", min=10), row("a", "p", min=1), row("b", "p", min=2), row("c", "p", min=3)]
        uses = {"a": 4, "b": 8, "c": 1}
        self.check(rows, uses, {"p": 10, "a": 1, "b": 2, "c": 1})
        # 6 are unclaimed, and the uses pass the claims by 3, 6 and 0.
        self.check(rows, uses, {"p": 10, "a": 3, "b": 6, "c": 1}, handing=True)

    def test_handing_on_where_all_is_claimed(self):
        rows = [row("p", min=10), row("a", "p", min=9), row("b", "p", min=9)]
        self.check(rows, {"a": 2, "b": 3}, {"p": 5, "a": 2, "b": 3}, handing=True)

    def test_handing_on_through_groups_without_a_setting(self):
        rows = [row("p", min=6), row("a", "p"), row("b", "a"), row("c", "b"), row("d", "b")]
        self.check(rows, {"c": 6, "d": 12}, {"p": 6, "a": 6, "b": 6, "c": 2, "d": 4}, handing=True)
        self.check(rows, {"c": 6, "d": 12}, {"p": 6, "a": 0, "b": 0, "c": 0, "d": 0})

    def test_several_levels(self):
        rows = [
            row("p", min=10), row("a", "p", min=8), row("b", "p", min=12), row("c", "a", min=3), row("d", "a", min=5),
            row("e", "b", min=1), row("f", "b", min=1),
        ]
        uses = {"c": 4, "d": 5, "e": 6, "f": 10}
        cut = {"p": 10, "a": 4, "b": 6, "c": 3 * HALF, "d": 5 * HALF}
        self.check(rows, uses, {**cut, "e": 1, "f": 1})
        self.check(rows, uses, {**cut, "e": 1 + 4 * Fraction(5, 14), "f": 1 + 4 * Fraction(9, 14)}, handing=True)

    def test_both_kinds(self):
        rows = [row("p", min=10, low=3), row("a", "p", min=4, low=4), row("b", "p", min=1, low=2)]
        uses = {"a": 5, "b": 5}
        self.check(rows, uses, {"p": 10, "a": 4, "b": 1}, kind="min")
        self.check(rows, uses, {"p": 3, "a": 2, "b": 1}, kind="low")

    def test_tops(self):
        rows = [
            row("p", min=1), row("q", min=9), row("a", "p", min=4), row("b", "p", min=8), row("c", "a", min=8),
            row("d", "a", min=8), row("e", "q", min=9),
        ]
        uses = {"b": 3, "c": 1, "d": 9, "e": 9}
        self.check(rows, uses, {"a": 4, "b": 3, "c": 4 * Fraction(1, 9), "d": 4 * Fraction(8, 9)}, top="p")
        self.check(rows, uses, {"c": 1, "d": 8}, top="a")
        self.check(rows, uses, {"e": 9}, top="q")

    def test_the_protections_of_children(self):
        random = Random(7)
        for turn in range(300):
            tree = random_tree(random)
            uses = random_uses(random, tree)
            found = protected(tree, uses, "", "min")
            self.assertEqual(list(found), tree.names())
            for name in tree.names():
                children = [Fraction(*found[child]) for child in tree.children(name)]
                if children:
                    own = Fraction(*found[name])
                    self.assertLessEqual(sum(children), own)
                    if tree.handing():
                        self.assertEqual(sum(children), own)

    def test_like_a_plain_reckoning(self):
        random = Random(8)
        for turn in range(1000):
            tree = random_tree(random)
            uses = random_uses(random, tree)
            top = random_top(random, tree)
            for kind in ("min", "low"):
                wanted = plainly_protected(tree, uses, top, kind)
                found = protected(tree, uses, top, kind)
                self.assertEqual(found, {name: told(part) for name, part in wanted.items()})


class ReclaimedTest(unittest.TestCase):
    def check(self, rows, uses, top, amount, wanted, rest=0, handing=False):
        found = reclaimed(Tree(rows, handing), uses_of(**uses), top, told(amount))
        self.assertEqual(repr(found), repr((uses_of(**wanted), told(rest))))

    def test_in_proportion_to_what_lies_beyond(self):
        rows = [row("a", min=2), row("b", min=1), row("c", min=9)]
        self.check(rows, {"a": 4, "b": 7, "c": 5}, "", 4, {"a": 3, "b": 4, "c": 5})

    def test_the_greater_of_both_kinds_is_held(self):
        rows = [row("a", min=2, low=4), row("b", min=3, low=1), row("c", low=1)]
        self.check(rows, {"a": 10, "b": 9, "c": 1}, "", 6, {"a": 7, "b": 6, "c": 1})
        self.check(rows, {"a": 10, "b": 9, "c": 1}, "", 12, {"a": 4, "b": 3, "c": 1})

    def test_both_kinds_together_may_be_more_than_what_stands_above(self):
        """[34]: each kind by itself is parted by what the group above has of it."""
        rows = [row("q", min=4, low=4), row("a", "q", min=4), row("b", "q", low=4)]
        self.check(rows, {"a": 6, "b": 6}, "", 4, {"a": 4, "b": 4})
        self.check(rows, {"a": 6, "b": 6}, "", 6, {"a": 4, "b": 2})
        self.check(rows, {"a": 6, "b": 6}, "", 9, {"a": 4, "b": 0}, rest=1)

    def test_the_second_go_takes_what_only_low_held(self):
        rows = [row("a", min=2, low=4), row("b", min=3, low=1), row("c", low=1)]
        uses = {"a": 10, "b": 9, "c": 1}
        self.check(rows, uses, "", 13, {"a": 4 - Fraction(2, 3), "b": 3, "c": 1 - THIRD})
        self.check(rows, uses, "", 15, {"a": 2, "b": 3, "c": 0})

    def test_more_than_there_is(self):
        rows = [row("a", min=2, low=4), row("b", min=3, low=1), row("c", low=1)]
        self.check(rows, {"a": 10, "b": 9, "c": 1}, "", 20, {"a": 2, "b": 3, "c": 0}, rest=5)
        self.check([row("a", min=5)], {"a": 5}, "", 3, {"a": 5}, rest=3)
        self.check([row("a")], {}, "", 3, {"a": 0}, rest=3)
        self.check([], {}, "", HALF, {}, rest=HALF)

    def test_the_second_go_reckons_anew(self):
        # a and b are cut to 2 each by min; low holds a at 4. Behind the first go the claims are 4 and 2,
        # so that a is protected 8/3 and b 4/3.
        rows = [row("p", min=4, low=4), row("a", "p", min=6, low=4), row("b", "p", min=6)]
        uses = {"a": 9, "b": 9}
        self.check(rows, uses, "", 12, {"a": 4, "b": 2})
        self.check(rows, uses, "", 13, {"a": 4 - Fraction(2, 3), "b": 2 - THIRD})
        self.check(rows, uses, "", 16, {"a": Fraction(8, 3), "b": Fraction(4, 3)}, rest=2)

    def test_of_nothing(self):
        rows = [row("p"), row("a", "p", min=2), row("b", "p"), row("c")]
        self.check(rows, {"a": 9, "c": 1}, "", 0, {"a": 9, "b": 0, "c": 1})
        self.check(rows, {"c": 1}, "p", 5, {"a": 0, "b": 0, "c": 1}, rest=5)

    def test_only_below_the_top(self):
        rows = [row("p", min=99), row("q", "p"), row("a", "q", min=1), row("b", "q"), row("c", "p"), row("d")]
        uses = {"a": 4, "b": 1, "c": 9, "d": 9}
        self.check(rows, uses, "q", 2, {"a": Fraction(5, 2), "b": HALF, "c": 9, "d": 9})
        self.check(rows, uses, "q", 9, {"a": 1, "b": 0, "c": 9, "d": 9}, rest=5)
        one = Fraction(1, 14)
        self.check(rows, uses, "p", 13, {"a": 4 * one, "b": one, "c": 9 * one, "d": 9})

    def test_handing_on(self):
        rows = [row("p", min=6), row("a", "p"), row("b", "p")]
        self.check(rows, {"a": 4, "b": 8}, "", 3, {"a": 3, "b": 6}, handing=True)
        self.check(rows, {"a": 4, "b": 8}, "", 9, {"a": 2, "b": 4}, rest=3, handing=True)
        self.check(rows, {"a": 4, "b": 8}, "", 9, {"a": 1, "b": 2})

    def test_in_two_parts(self):
        """[1]: the same where a tree does not hand on and is cut in neither kind."""
        rows = [row("p", min=9, low=9), row("a", "p", min=4, low=5), row("b", "p", min=5, low=4), row("c", min=1)]
        tree = Tree(rows)
        uses = uses_of(a=7, b=6, c=Fraction(7, 2))
        for amount in (0, 1, Fraction(5, 3), 6, 7, Fraction(20, 3), 9, 20):
            for part in (0, HALF, THIRD, 1):
                first, none = reclaimed(tree, uses, "", told(amount * part))
                second, rest = reclaimed(tree, first, "", told(amount * (1 - part) + Fraction(*none)))
                self.assertEqual((second, rest), reclaimed(tree, uses, "", told(amount)))

    def test_like_a_plain_reckoning(self):
        random = Random(9)
        for turn in range(1500):
            tree = random_tree(random)
            uses = random_uses(random, tree)
            top = random_top(random, tree)
            amount = told(random_number(random) * random.choice([1, 1, 4]))
            found = reclaimed(tree, uses, top, amount)
            self.assertEqual(found, plainly_reclaimed(tree, uses, top, amount))
            self.assertEqual(list(found[0]), tree.leaves())


class KeepsTest(unittest.TestCase):
    def setUp(self):
        self.tree = Tree([
            row("p", min=20, low=20), row("a", "p", min=5), row("b", "p", low=4), row("q"), row("c", "q"),
            row("d", "q"),
        ])
        self.uses = uses_of(a=5, b=4, c=3)

    def kept(self, amount, top=""):
        names = self.tree.names() if top == "" else [name for name in self.tree.names() if self.tree.above(name) == top]
        return [name for name in names if keeps(self.tree, self.uses, top, told(amount), name) is True]

    def test_leaves_and_groups(self):
        self.assertEqual(self.kept(0), ["p", "a", "b", "q", "c", "d"])
        self.assertEqual(self.kept(2), ["p", "a", "b", "d"])
        self.assertEqual(self.kept(3), ["p", "a", "b", "d"])
        # The second go takes from b.
        self.assertEqual(self.kept(4), ["a", "d"])
        self.assertEqual(self.kept(40), ["a", "d"])

    def test_below_a_top(self):
        self.assertEqual(self.kept(2, "p"), ["a"])
        self.assertEqual(self.kept(1, "q"), ["d"])
        self.assertEqual(self.kept(0, "q"), ["c", "d"])

    def test_tells_a_bool(self):
        for amount in (0, 4):
            self.assertIs(type(keeps(self.tree, self.uses, "", told(amount), "p")), bool)
        self.assertIs(keeps(self.tree, self.uses, "", (4, 1), "p"), False)

    def test_like_what_is_reclaimed(self):
        random = Random(10)
        for turn in range(700):
            tree = random_tree(random)
            uses = random_uses(random, tree)
            top = random_top(random, tree)
            amount = told(random_number(random))
            left = plainly_reclaimed(tree, uses, top, amount)[0]
            for name in plainly_protected(tree, uses, top, "min"):
                wanted = all(left[leaf] == uses.get(leaf, (0, 1)) for leaf in leaves_of(tree, name))
                self.assertIs(keeps(tree, uses, top, amount, name), wanted)


class ErrorsTest(unittest.TestCase):
    def setUp(self):
        self.tree = Tree([row("p", min=5), row("a", "p", min=2), row("b", "p"), row("c")])
        self.good = {
            protected: [self.tree, {}, "p", "min"],
            reclaimed: [self.tree, {}, "p", (1, 1)],
            keeps: [self.tree, {}, "p", (1, 1), "a"],
        }

    def wrong(self, place, things, error, at=None):
        """The thing is wrong at its place, whatever stands behind it."""
        for function, good in self.good.items():
            if place < len(good):
                for thing in things:
                    for behind in behinds(good[place + 1:]):
                        with self.subTest(function.__name__, thing=repr(thing)):
                            with self.assertRaises(error) as caught:
                                function(*good[:place], thing, *behind)
                            if at is not None:
                                self.assertEqual(caught.exception.at, at)

    def test_no_tree(self):
        self.wrong(0, [thing for thing in odd_things() if not isinstance(thing, Tree)] + [[row("p")]], NoTree, at=-1)

    def test_no_uses(self):
        things = [thing for thing in odd_things() if not isinstance(thing, dict) or thing]
        keys = ("p", "", "x", "A", None, 0, True, (1, 1), ("a",), b"a", frozenset("a"), Tree)
        things += [{key: (1, 1)} for key in keys]
        things += [{"a": thing} for thing in NO_AMOUNTS]
        things += [{"a": (1, 1), "c": (1, 1), "p": (0, 1)}, {"a": (1, 1), "b": None}, [("a", (1, 1))]]
        self.wrong(1, things, NoUses)

    def test_no_top(self):
        things = [thing for thing in odd_things() if not isinstance(thing, str) or thing not in ("", "p")]
        self.wrong(2, things + ["a", "b", "c", "x", "P"], NoName)

    def test_no_kind(self):
        self.good = {protected: self.good[protected]}
        self.wrong(3, odd_things() + ["max", "", "Low", ("min",), "min ", b"low"], NoKind)

    def test_no_amount(self):
        del self.good[protected]
        self.wrong(3, NO_AMOUNTS + [thing for thing in odd_things() if thing != (0, 1)], NoAmount)

    def test_no_name_to_keep(self):
        things = odd_things() + ["", "p", "c", "x", "q"]
        self.good = {keeps: self.good[keeps]}
        self.wrong(4, things, NoName)
        tree = Tree([row("p"), row("a", "p"), row("b", "a"), row("c", "a"), row("d", "p")])
        for name in ("p", "a", "d"):
            with self.assertRaises(NoName):
                keeps(tree, {}, "a", (1, 1), name)
        self.assertIs(keeps(tree, {}, "a", (1, 1), "b"), True)
        self.assertIs(keeps(tree, {}, "p", (1, 1), "a"), True)


if __name__ == "__main__":
    unittest.main()
