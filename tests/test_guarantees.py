"""Promises [10] to [16]: what a group is protected for all uses of all others."""

import unittest
from fractions import Fraction
from random import Random

from branchdues.errors import NoAmount, NoKind, NoName, NoTree
from branchdues.guarantees import cut_by, greatest, least, near, never_cut, raised, safe
from branchdues.protections import protected
from branchdues.trees import Tree
from helper import (
    NO_AMOUNTS, behinds, claim_in, leaves_of, odd_things, plainly_protected, random_number, random_top, random_tree,
    row, told)

HALF = Fraction(1, 2)


def number(amount):
    return Fraction(*amount)


# g is two below the child of the top; t stands beside p and does not matter.
DEEP = [
    row("p", min=20, low=1), row("t", min=50), row("a", "p", min=9), row("b", "p", min=16), row("g", "a", min=4),
    row("h", "a", min=2), row("x", "g", min=1), row("y", "g"), row("v", "b"), row("w", "b"),
]
# Each group of the path is an only child.
LINE = [row("p", min=6), row("a", "p", min=3), row("g", "a", min=1), row("x", "g", min=1), row("y", "g")]


class LeastTest(unittest.TestCase):
    def check(self, tree, name, use, wanted, uses=None, top="", kind="min"):
        found = least(tree, name, told(use), top, kind)
        if uses is not None:
            uses = {leaf: told(uses.get(leaf, 0)) for leaf in tree.leaves()}
        self.assertEqual(repr(found), repr((told(wanted), uses)))
        if uses is not None:
            self.assertEqual(protected(tree, uses, top, kind)[name], told(wanted))

    def test_a_child_of_the_top(self):
        for name, use, wanted in (("p", 7, 7), ("p", 20, 20), ("p", 30, 20), ("t", 60, 50), ("p", 0, 0)):
            # The row of h stands ahead of that of x.
            first = "h" if name == "p" else "t"
            self.check(Tree(DEEP), name, use, wanted, {first: use})
            found = least(Tree(DEEP, True), name, told(use), "", "min")
            self.assertEqual(found, (told(wanted), None))

    def test_cut_at_one_level(self):
        # p has min(20, 5 + 16) for claims of 5 and 16, a then has just what g and h claim, or less.
        self.check(Tree(DEEP), "g", 3, 3 * Fraction(20, 21), {"x": 3, "h": 2, "v": 16})
        self.check(Tree(DEEP), "a", 5, 5 * Fraction(20, 21), {"h": 5, "v": 16})
        self.check(Tree(DEEP), "h", 1, Fraction(20, 21), {"h": 1, "x": 4, "v": 16})

    def test_more_than_the_setting(self):
        # a uses 12 and claims 9, p uses 28: a gets 9 * 20 / 25, more than g and h claim.
        self.check(Tree(DEEP), "g", 10, 4, {"x": 10, "h": 2, "v": 16})

    def test_cut_at_several_levels(self):
        rows = [row("p", min=8), row("a", "p", min=6), row("b", "p", min=6), row("g", "a", min=5), row("h", "a", min=3)]
        self.check(Tree(rows), "g", 5, Fraction(5 * 4, 8), {"g": 5, "h": 3, "b": 6})
        self.check(Tree(rows, True), "g", 5, Fraction(5 * 4, 8))

    def test_a_use_of_0(self):
        for handing in (False, True):
            for name in ("g", "x", "a", "h", "y"):
                found = least(Tree(DEEP, handing), name, (0, 1), "", "min")
                self.assertEqual(found[0], (0, 1))
        self.check(Tree(DEEP), "g", 0, 0, {"h": 2, "v": 16})
        self.check(Tree([row("p"), row("a", "p")]), "a", 0, 0, {})

    def test_without_siblings(self):
        self.check(Tree(LINE), "g", 5, 1, {"x": 5})
        self.check(Tree(LINE), "a", 5, 3, {"x": 5})
        self.check(Tree(LINE, True), "g", 5, 5)
        self.check(Tree(LINE, True), "g", 9, 6)
        self.check(Tree(LINE, True), "a", 7, 6)
        # x has a sibling, so that its own setting bounds it.
        self.check(Tree(LINE, True), "x", 5, 1)
        self.check(Tree(LINE, True), "y", 5, 0)

    def test_no_sibling_takes_what_a_setting_holds_above(self):
        rows = [row("p", min=9), row("a", "p", min=4), row("b", "p", min=5), row("g", "a", min=1)]
        self.check(Tree(rows), "g", 3, 1, {"g": 3, "b": 5})
        self.check(Tree(rows, True), "g", 3, 3)
        self.check(Tree(rows, True), "g", 7, 4)

    def test_tops(self):
        self.check(Tree(DEEP), "g", 3, 3, {"x": 3, "h": 2}, top="p")
        self.check(Tree(DEEP), "g", 8, 4, {"x": 8}, top="a")
        self.check(Tree(DEEP), "x", 8, 1, {"x": 8}, top="g")
        self.check(Tree(DEEP), "x", HALF, HALF, {"x": HALF, "h": 2}, top="p")

    def test_both_kinds(self):
        rows = [row("p", min=9, low=2), row("g", "p", min=3, low=5), row("s", "p", min=1, low=5)]
        self.check(Tree(rows), "g", 4, 3, {"g": 4, "s": 1})
        self.check(Tree(rows), "g", 4, Fraction(8, 9), {"g": 4, "s": 5}, kind="low")


class NearTest(unittest.TestCase):
    def check(self, rows, name, use, gap, handing=True, top="", kind="min"):
        tree = Tree(rows, handing)
        uses = near(tree, name, told(use), top, kind, told(gap))
        self.assertEqual(list(uses), tree.leaves())
        own = leaves_of(tree, name)
        self.assertEqual([uses[leaf] for leaf in own], [told(use)] + [(0, 1)] * (len(own) - 1))
        part = number(protected(tree, uses, top, kind)[name])
        bound, worst = least(tree, name, told(use), top, kind)
        self.assertLessEqual(number(bound), part)
        self.assertLess(part, number(bound) + gap)
        if not handing:
            self.assertEqual(uses, worst)
            self.assertEqual(part, number(bound))
        return part - number(bound)

    def test_a_tree_that_does_not_hand_on(self):
        for gap in (HALF, 1, Fraction(1, 10 ** 300)):
            for use in (0, 3, 10):
                self.check(DEEP, "g", use, gap, handing=False)
                self.check(LINE, "g", use, gap, handing=False)

    def test_where_no_use_reaches_it(self):
        rows = [row("p", min=10), row("g", "p", min=3), row("s", "p", min=2)]
        for gap in (9, 1, HALF, Fraction(1, 10 ** 300)):
            self.assertGreater(self.check(rows, "g", 8, gap), 0)

    def test_where_a_use_reaches_it(self):
        rows = [row("p", min=10), row("g", "p", min=3), row("s", "p", min=2)]
        self.assertEqual(self.check(rows, "g", 2, HALF), 0)
        self.assertEqual(self.check(rows, "p", 20, HALF), 0)
        self.assertEqual(self.check(LINE, "g", 5, HALF), 0)

    def test_deeper_ones(self):
        for name in ("g", "h", "a", "b", "x", "y", "v"):
            for use in (0, 1, 5, 30):
                for gap in (3, Fraction(1, 1000)):
                    self.check(DEEP, name, use, gap)

    def test_handed_on_at_several_levels(self):
        rows = [
            row("p", min=100), row("a", "p", min=20), row("o", "p"), row("b", "a", min=10), row("q", "a", min=1),
            row("r", "q"), row("g", "b", min=2), row("s", "b", min=1), row("x", "g"), row("y", "g"),
        ]
        for name in ("a", "b", "g", "x"):
            for use in (1, 5, 15, 50, 300):
                for gap in (1, Fraction(1, 10 ** 9)):
                    self.check(rows, name, use, gap)

    def test_a_raise_above_does_not_come_through(self):
        # Much use of s would raise what a claims, so only b may be crowded out.
        rows = [row("p", min=10), row("a", "p", min=9), row("b", "p", min=6)]
        rows += [row("g", "a", min=5), row("s", "a", min=1)]
        for use in (2, 5, 6, 12):
            for gap in (1, Fraction(1, 1000)):
                self.check(rows, "g", use, gap)
                self.check(rows, "a", use, gap)


class GreatestTest(unittest.TestCase):
    def check(self, rows, name, use, wanted, handing, top="", kind="min"):
        tree = Tree(rows, handing)
        found = greatest(tree, name, told(use), top, kind)
        self.assertEqual(repr(found), repr(told(wanted)))
        first = leaves_of(tree, name)[0]
        self.assertEqual(protected(tree, {first: told(use)}, top, kind)[name], told(wanted))

    def test_the_least_of_the_path(self):
        for use, wanted in ((0, 0), (3, 3), (4, 4), (30, 4)):
            self.check(DEEP, "g", use, wanted, False)
        self.check([row("p", min=2), row("a", "p", min=3), row("g", "a", min=5)], "g", 9, 2, False)
        self.check([row("p", min=3), row("a", "p", min=2), row("g", "a", min=5)], "g", 9, 2, False)

    def test_handing_on(self):
        for use, wanted in ((0, 0), (3, 3), (19, 19), (30, 20)):
            self.check(DEEP, "g", use, wanted, True)
            self.check(DEEP, "y", use, wanted, True)
        self.check(DEEP, "p", 30, 20, True)

    def test_tops_and_kinds(self):
        self.check(DEEP, "g", 30, 9, True, top="p")
        self.check(DEEP, "x", 30, 4, True, top="a")
        self.check(DEEP, "x", 30, 1, False, top="p")
        self.check(DEEP, "g", 30, 1, True, kind="low")
        self.check(DEEP, "g", 30, 0, False, kind="low")
        self.check(DEEP, "p", HALF, HALF, False, kind="low")


class SafeTest(unittest.TestCase):
    def check(self, tree, name, wanted, top="", kind="min"):
        found = safe(tree, name, top, kind)
        self.assertEqual(repr(found), repr(told(wanted)))
        self.assertEqual(least(tree, name, found, top, kind)[0], found)
        for more in (1, Fraction(1, 1000)):
            use = told(wanted + more)
            self.assertLess(number(least(tree, name, use, top, kind)[0]), number(use))

    def test_a_child_of_the_top(self):
        for handing in (False, True):
            self.check(Tree(DEEP, handing), "p", 20)
            self.check(Tree(DEEP, handing), "t", 50)

    def test_deeper_ones(self):
        for handing in (False, True):
            # a: 20 - 16; g: 4, and 9 - 2 and 20 - 2 - 16 above it.
            self.check(Tree(DEEP, handing), "a", 4)
            self.check(Tree(DEEP, handing), "g", 2)
            self.check(Tree(DEEP, handing), "g", 4, top="p")
            self.check(Tree(DEEP, handing), "h", 0)
            self.check(Tree(DEEP, handing), "h", 2, top="p")
            self.check(Tree(DEEP, handing), "x", 1)
            self.check(Tree(DEEP, handing), "y", 0)

    def test_never_below_0(self):
        rows = [row("p", min=5), row("g", "p", min=5), row("s", "p", min=50)]
        for handing in (False, True):
            self.check(Tree(rows, handing), "g", 0)

    def test_without_siblings(self):
        self.check(Tree(LINE), "g", 1)
        self.check(Tree(LINE), "a", 3)
        self.check(Tree(LINE, True), "g", 6)
        self.check(Tree(LINE, True), "a", 6)
        self.check(Tree(LINE, True), "x", 1)
        self.check(Tree(LINE, True), "g", 1, top="a")
        self.check(Tree(LINE, True), "g", 3, top="p")

    def test_both_kinds(self):
        rows = [row("p", min=9, low=5), row("g", "p", min=3, low=5), row("s", "p", min=1, low=Fraction(9, 2))]
        self.check(Tree(rows), "g", 3)
        self.check(Tree(rows), "g", HALF, kind="low")


class RaisedTest(unittest.TestCase):
    def check(self, tree, name, wanted, settings, top="", kind="min"):
        found = raised(tree, name, top, kind, told(wanted))
        other = tree
        for group, setting in settings.items():
            other = other.with_due(group, kind, told(setting))
        self.assertEqual(found, other)
        self.assertGreaterEqual(number(safe(found, name, top, kind)), wanted)

    def test_of_0(self):
        for handing in (False, True):
            for name in ("p", "g", "y", "h"):
                self.check(Tree(DEEP, handing), name, 0, {})

    def test_what_is_safe_already(self):
        for handing in (False, True):
            self.check(Tree(DEEP, handing), "g", 2, {})
            self.check(Tree(DEEP, handing), "p", 20, {})

    def test_what_is_not(self):
        for handing in (False, True):
            self.check(Tree(DEEP, handing), "p", 21, {"p": 21})
            self.check(Tree(DEEP, handing), "g", 3, {"p": 21})
            self.check(Tree(DEEP, handing), "g", 5, {"g": 5, "p": 23})
            self.check(Tree(DEEP, handing), "g", 8, {"g": 8, "a": 10, "p": 26})
            self.check(Tree(DEEP, handing), "y", HALF, {"y": HALF})

    def test_without_siblings(self):
        self.check(Tree(LINE), "g", 7, {"g": 7, "a": 7, "p": 7})
        self.check(Tree(LINE, True), "g", 7, {"p": 7})
        self.check(Tree(LINE, True), "g", 5, {})
        self.check(Tree(LINE, True), "x", 5, {"x": 5})
        self.check(Tree(LINE, True), "g", 7, {"a": 7}, top="p")
        self.check(Tree(LINE), "g", 7, {"g": 7}, top="a")

    def test_only_this_kind(self):
        self.check(Tree(DEEP), "g", 1, {"p": 1, "a": 1, "g": 1}, kind="low")
        self.check(Tree(DEEP), "p", 1, {}, kind="low")

    def test_the_tree_that_was_asked_stays(self):
        tree = Tree(DEEP)
        raised(tree, "g", "", "min", (8, 1))
        self.assertEqual(tree, Tree(DEEP))

    def test_no_lesser_settings_do(self):
        random = Random(3)
        for turn in range(300):
            tree = random_tree(random)
            top = random_top(random, tree)
            name = random.choice(list(protected(tree, {}, top, "low")))
            wanted = random_number(random)
            found = raised(tree, name, top, "low", told(wanted))
            self.assertEqual(number(least(found, name, told(wanted), top, "low")[0]), wanted)
            for group in tree.names():
                self.assertEqual(found.due(group, "min"), tree.due(group, "min"))
                before, behind = number(tree.due(group, "low")), number(found.due(group, "low"))
                self.assertLessEqual(before, behind)
                if before < behind:
                    lesser = max(before, behind - Fraction(1, 1000))
                    other = found.with_due(group, "low", told(lesser))
                    self.assertLess(number(least(other, name, told(wanted), top, "low")[0]), wanted)


class NeverCutTest(unittest.TestCase):
    def check(self, rows, wanted, handing, top="", kind="min"):
        tree = Tree(rows, handing)
        self.assertIs(never_cut(tree, top, kind), wanted)
        uses = cut_by(tree, top, kind)
        if wanted:
            self.assertIsNone(uses)
            return
        self.assertLessEqual(set(uses), set(tree.leaves()))
        parts = protected(tree, uses, top, kind)
        self.assertTrue(any(number(parts[name]) < claim_in(tree, uses, name, kind) for name in parts))

    def test_settings_that_just_fit(self):
        rows = [row("p", min=10), row("a", "p", min=4), row("b", "p", min=6), row("c", "a", min=4), row("d")]
        for handing in (False, True):
            self.check(rows, True, handing)
            self.check(rows, True, handing, top="p")
            self.check([], True, handing)
            self.check([row("a", min=4), row("b")], True, handing)

    def test_settings_that_do_not(self):
        for handing in (False, True):
            self.check([row("p", min=10), row("a", "p", min=4), row("b", "p", min=7)], False, handing)
            self.check([row("p"), row("a", "p", min=4)], False, handing)
            self.check(DEEP, False, handing)
            self.check(DEEP, True, handing, top="p")
            self.check(DEEP, True, handing, top="a")

    def test_the_setting_of_the_top_does_not_count(self):
        rows = [row("p"), row("a", "p", min=4), row("b", "p", min=4), row("c", "a", min=3), row("d", "a", min=1)]
        for handing in (False, True):
            self.check(rows, True, handing, top="p")
            self.check(rows, False, handing)

    def test_without_siblings(self):
        rows = [row("p", min=6), row("a", "p"), row("b", "a", min=5), row("c", "b", min=2), row("d", "b", min=4)]
        self.check(rows, False, False)
        self.check(rows, False, False, top="p")
        self.check(rows, True, True)
        self.check(rows, False, True, top="p")
        self.check(rows, False, False, top="a")
        self.check(rows, False, True, top="a")
        self.check(rows + [row("e", "b", min=1)], False, True)
        self.check(rows + [row("e", "p")], False, True)
        # An only child that is promised more than its bound is cut itself.
        self.check([row("p", min=6), row("a", "p", min=7)], False, True)

    def test_siblings_that_leave_nothing_to_hand_on(self):
        rows = [
            row("t", min=100), row("p", "t", min=60), row("q", "t", min=6), row("s", "p", min=1), row("a", "p", min=5),
            row("b", "a", min=1), row("c", "b", min=3), row("d", "b", min=3), row("e", "s"), row("f", "s"),
        ]
        self.check(rows, False, True)
        self.check(rows, False, False)
        self.check(rows, False, True, top="p")
        rows[4] = row("a", "p", min=6)
        self.check(rows, True, True)
        self.check(rows, False, False)

    def test_both_kinds(self):
        rows = [row("p", min=9, low=5), row("g", "p", min=3, low=5), row("s", "p", min=1, low=HALF)]
        for handing in (False, True):
            self.check(rows, True, handing)
            self.check(rows, False, handing, kind="low")


class AllUsesTest(unittest.TestCase):
    """What holds for all uses, tried with many."""

    def some_uses(self, random, tree, name, use, worst):
        uses = {leaf: told(random_number(random) * random.choice([0, 1, 1, 100])) for leaf in tree.leaves()}
        uses.update({leaf: worst[leaf] for leaf in worst if random.random() < 0.4})
        own = leaves_of(tree, name)
        uses.update({leaf: (0, 1) for leaf in own})
        uses[own[0]] = use
        return uses

    def test_bounds(self):
        random = Random(4)
        for turn in range(600):
            tree = random_tree(random)
            top = random_top(random, tree)
            name = random.choice(list(protected(tree, {}, top, "min")))
            use = told(random_number(random))
            gap = random.choice([Fraction(1, 1000), Fraction(1), Fraction(5, 3)])
            low, worst = least(tree, name, use, top, "min")
            close = near(tree, name, use, top, "min", told(gap))
            self.assertLess(number(protected(tree, close, top, "min")[name]), number(low) + gap)
            self.assertEqual(worst, None if tree.handing() else close)
            high = greatest(tree, name, use, top, "min")
            for again in range(6):
                uses = self.some_uses(random, tree, name, use, close)
                part = plainly_protected(tree, uses, top, "min")[name]
                self.assertLessEqual(number(low), part)
                self.assertLessEqual(part, number(high))

    def test_never_cut(self):
        random = Random(5)
        seen = {True: 0, False: 0}
        for turn in range(400):
            tree = random_tree(random)
            top = random_top(random, tree)
            never = never_cut(tree, top, "min")
            seen[never] += 1
            uses = cut_by(tree, top, "min")
            self.assertEqual(uses is None, never)
            if not never:
                parts = plainly_protected(tree, uses, top, "min")
                self.assertTrue(any(parts[name] < claim_in(tree, uses, name, "min") for name in parts))
                continue
            for again in range(6):
                uses = {leaf: told(random_number(random) * random.choice([0, 1, 100])) for leaf in tree.leaves()}
                parts = plainly_protected(tree, uses, top, "min")
                self.assertTrue(all(parts[name] >= claim_in(tree, uses, name, "min") for name in parts))
        self.assertGreater(min(seen.values()), 50)


class ErrorsTest(unittest.TestCase):
    def setUp(self):
        # a is not below the top q.
        self.tree = Tree([row("p", min=5), row("a", "p", min=2), row("b", "a"), row("q"), row("c", "q"), row("d", "c")])
        self.good = {
            least: [self.tree, "a", (1, 1), "p", "min"],
            near: [self.tree, "a", (1, 1), "p", "min", (1, 1)],
            greatest: [self.tree, "a", (1, 1), "p", "min"],
            safe: [self.tree, "a", "p", "min"],
            raised: [self.tree, "a", "p", "min", (1, 1)],
            never_cut: [self.tree, "p", "min"],
            cut_by: [self.tree, "p", "min"],
        }
        self.signatures = {
            least: "tree name use top kind", near: "tree name use top kind gap", greatest: "tree name use top kind",
            safe: "tree name top kind", raised: "tree name top kind wanted", never_cut: "tree top kind",
            cut_by: "tree top kind",
        }

    def wrong(self, argument, things, error, at=None):
        """The thing is wrong at its place, whatever stands behind it."""
        for function, good in self.good.items():
            words = self.signatures[function].split()
            if argument in words:
                place = words.index(argument)
                for thing in things:
                    for behind in behinds(good[place + 1:]):
                        with self.subTest(function.__name__, thing=repr(thing)):
                            with self.assertRaises(error) as caught:
                                function(*good[:place], thing, *behind)
                            if at is not None:
                                self.assertEqual(caught.exception.at, at)

    def test_no_tree(self):
        things = [thing for thing in odd_things() if not isinstance(thing, Tree)]
        self.wrong("tree", things + [[row("p")]], NoTree, at=-1)

    def test_no_group(self):
        things = [thing for thing in odd_things() if not isinstance(thing, str) or thing != "p"]
        self.wrong("name", things + ["", "x", "A"], NoName)

    def test_no_use(self):
        self.wrong("use", NO_AMOUNTS + [thing for thing in odd_things() if thing != (0, 1)], NoAmount)

    def test_no_top(self):
        things = [thing for thing in odd_things() if not isinstance(thing, str) or thing not in ("", "p")]
        self.wrong("top", things + ["b", "d", "x", "P"], NoName)

    def test_no_kind(self):
        self.wrong("kind", odd_things() + ["max", "", "Low", ("min",), b"low"], NoKind)

    def test_nothing_wanted(self):
        self.wrong("wanted", NO_AMOUNTS + [thing for thing in odd_things() if thing != (0, 1)], NoAmount)

    def test_no_gap(self):
        things = NO_AMOUNTS + odd_things() + [(0, 1)]
        self.wrong("gap", things, NoAmount)
        handing = Tree([row("p", min=5), row("a", "p", min=2)], True)
        for thing in things:
            with self.assertRaises(NoAmount):
                near(handing, "a", (1, 1), "", "min", thing)

    def test_a_group_that_is_not_below_the_top(self):
        """Behind all others, but ahead of the gap."""
        for name, top in (("a", "q"), ("a", "a"), ("p", "p"), ("p", "a"), ("d", "p"), ("q", "c")):
            with self.subTest(name, top=top):
                for function in (least, greatest):
                    with self.assertRaises(NoName):
                        function(self.tree, name, (1, 1), top, "min")
                    with self.assertRaises(NoAmount):
                        function(self.tree, name, (2, 2), top, "min")
                    with self.assertRaises(NoKind):
                        function(self.tree, name, (1, 1), top, "max")
                for gap in ((1, 1), (0, 1), None, []):
                    with self.assertRaises(NoName):
                        near(self.tree, name, (1, 1), top, "min", gap)
                    with self.assertRaises(NoKind):
                        near(self.tree, name, (1, 1), top, None, gap)
                with self.assertRaises(NoName):
                    safe(self.tree, name, top, "low")
                with self.assertRaises(NoKind):
                    safe(self.tree, name, top, [])
                for wanted in ((0, 1), (1, 1)):
                    with self.assertRaises(NoName):
                        raised(self.tree, name, top, "low", wanted)
                with self.assertRaises(NoAmount):
                    raised(self.tree, name, top, "low", (1, 0))


if __name__ == "__main__":
    unittest.main()
