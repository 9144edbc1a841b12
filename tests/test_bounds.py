"""The bounds of [2]: each call is answered in time, with amounts as long as they may be."""

import unittest
from fractions import Fraction
from random import Random

from branchdues.amounts import divisor
from branchdues.guarantees import cut_by, greatest, least, near, never_cut, raised, safe
from branchdues.protections import keeps, protected, reclaimed
from branchdues.trees import Tree
from helper import in_time, leaves_of, plainly_protected, told

GROUPS = 60
LEVELS = 12
DIGITS = 300


def long_whole(random):
    return (random.randrange(10 ** (DIGITS - 1), 10 ** DIGITS), 1)


def long_fraction(random):
    return told(Fraction(long_whole(random)[0], long_whole(random)[0]))


def name_of(at):
    return "g" + "abcdefghij"[at // 10] + "abcdefghij"[at % 10]


def deep_rows(random, amount):
    """On each level five groups, the first one with children: 12 levels, 60 groups."""
    rows = []
    above = ""
    for at in range(GROUPS):
        rows.append((name_of(at), above, (("min", amount(random)), ("low", amount(random)))))
        if at % 5 == 4:
            above = name_of(at - 4)
    return rows


def wide_rows(random, amount):
    depth = {"": 0}
    rows = []
    for at in range(GROUPS):
        above = random.choice([name for name in depth if depth[name] < LEVELS])
        depth[name_of(at)] = depth[above] + 1
        rows.append((name_of(at), above, (("min", amount(random)), ("low", amount(random)))))
    return rows


def bottom_rows(random, amount):
    """A line of groups with all the leaves below the last one: 12 levels, 60 groups."""
    above = [""] + [name_of(at) for at in range(LEVELS - 1)]
    above += above[-1:] * (GROUPS - LEVELS)
    return [(name_of(at), above[at], (("min", amount(random)), ("low", amount(random)))) for at in range(GROUPS)]


def part_of(uses, part):
    return told(part * sum(Fraction(*use) for use in uses.values()))


class BoundsTest(unittest.TestCase):
    def trees(self):
        for amount in (long_whole, long_fraction):
            for rows in (deep_rows, wide_rows):
                for handing in (False, True):
                    random = Random(f"{amount.__name__} {rows.__name__} {handing}")
                    tree = in_time(self, Tree, rows(random, amount), handing)
                    with self.subTest(f"{amount.__name__} {rows.__name__} {handing}"):
                        yield tree, amount, random

    def check_sums(self, tree, parts):
        """What the document says of the protections of children, without a second reckoning."""
        for name in tree.names():
            children = [Fraction(*parts[child]) for child in tree.children(name)]
            if children:
                self.assertLessEqual(sum(children), Fraction(*parts[name]))

    def test_the_shapes(self):
        rows = deep_rows(Random(1), long_whole)
        tree = Tree(rows)
        self.assertEqual(len(rows), GROUPS)
        self.assertEqual(max(len(tree.path(name)) for name in tree.names()), LEVELS)

    def test_protected(self):
        for tree, amount, random in self.trees():
            uses = {leaf: amount(random) for leaf in tree.leaves()}
            parts = in_time(self, protected, tree, uses, "", "min")
            self.check_sums(tree, parts)
            if amount == long_whole:
                wanted = plainly_protected(tree, uses, "", "min")
                self.assertEqual(parts, {name: told(part) for name, part in wanted.items()})
            again = {leaf: parts[leaf] for leaf in tree.leaves()}
            self.check_sums(tree, in_time(self, protected, tree, again, "", "low"))
            self.assertEqual(in_time(self, protected, tree, again, "", "min")[tree.names()[0]], parts[tree.names()[0]])

    def test_reclaimed(self):
        for tree, amount, random in self.trees():
            uses = {leaf: amount(random) for leaf in tree.leaves()}
            taken = part_of(uses, Fraction(1, 3))
            left, rest = in_time(self, reclaimed, tree, uses, "", taken)
            self.assertEqual(rest, (0, 1))
            if amount == long_whole:
                gone = Fraction(*part_of(uses, 1)) - Fraction(*part_of(left, 1))
                self.assertEqual(gone, Fraction(*taken))
                self.assertIs(in_time(self, keeps, tree, uses, "", taken, tree.names()[0]), False)

    def test_told_uses_again(self):
        for tree, amount, random in self.trees():
            uses = {leaf: (long_whole(random)[0], 1) for leaf in tree.leaves()}
            left, rest = in_time(self, reclaimed, tree, uses, "", part_of(uses, Fraction(1, 3)))
            if amount == long_whole:
                self.check_sums(tree, in_time(self, protected, tree, left, "", "min"))
                self.assertEqual(in_time(self, reclaimed, tree, left, "", (0, 1)), (left, (0, 1)))
            first = tree.leaves()[0]
            bound = in_time(self, least, tree, first, left[first], "", "min")[0]
            self.assertLessEqual(Fraction(*bound), Fraction(*left[first]))

    def test_reclaimed_again_and_again(self):
        """Only whole numbers, with all leaves on one level: else what is told grows too long for this."""
        for handing in (False, True):
            random = Random(11)
            tree = Tree(bottom_rows(random, long_whole), handing)
            uses = {leaf: long_whole(random) for leaf in tree.leaves()}
            for turn in range(3):
                with self.subTest(handing=handing, turn=turn):
                    taken = part_of(uses, Fraction(1, 4))
                    left, rest = in_time(self, reclaimed, tree, uses, "", taken)
                    gone = Fraction(*part_of(uses, 1)) - Fraction(*part_of(left, 1))
                    self.assertEqual(gone + Fraction(*rest), Fraction(*taken))
                    self.assertIs(in_time(self, keeps, tree, uses, "", taken, tree.names()[0]), left == uses)
                    in_time(self, protected, tree, left, "", "min")
                    uses = left

    def test_guarantees(self):
        for tree, amount, random in self.trees():
            name = max(tree.names(), key=lambda one: len(tree.path(one)))
            use = amount(random)
            bound, worst = in_time(self, least, tree, name, use, "", "min")
            for gap in ((1, 10 ** DIGITS), use):
                close = in_time(self, near, tree, name, use, "", "min", gap)
                part = Fraction(*in_time(self, protected, tree, close, "", "min")[name])
                self.assertLess(part, Fraction(*bound) + Fraction(*gap))
            high = in_time(self, greatest, tree, name, use, "", "min")
            self.assertEqual(protected(tree, {leaves_of(tree, name)[0]: use}, "", "min")[name], high)
            grown = in_time(self, raised, tree, name, "", "min", use)
            self.assertEqual(in_time(self, least, grown, name, use, "", "min")[0], use)
            self.assertGreaterEqual(Fraction(*in_time(self, safe, grown, name, "", "min")), Fraction(*use))
            self.assertIs(in_time(self, never_cut, tree, "", "min"), False)
            uses = in_time(self, cut_by, tree, "", "min")
            self.check_sums(tree, in_time(self, protected, tree, uses, "", "min"))

    def test_told_amounts_as_use_and_wanted(self):
        for tree, amount, random in self.trees():
            uses = {leaf: amount(random) for leaf in tree.leaves()}
            parts = in_time(self, protected, tree, uses, "", "min")
            name = max(tree.leaves(), key=lambda one: parts[one][1])
            use = told(Fraction(*parts[name]) * 3 + Fraction(*uses[name]) / 7)
            in_time(self, least, tree, name, use, "", "min")
            in_time(self, near, tree, name, use, "", "min", parts[name] if parts[name][0] else (1, 1))
            grown = in_time(self, raised, tree, name, "", "min", use)
            self.assertEqual(in_time(self, least, grown, name, use, "", "min")[0], use)


class LongNumbersTest(unittest.TestCase):
    def check(self, one, other):
        wanted = Fraction(one, other).denominator
        self.assertEqual(other // divisor(one, other), wanted)
        self.assertEqual(divisor(one, other), divisor(other, one))

    def test_divisors_of_long_numbers(self):
        random = Random(6)
        for turn in range(60):
            same, one, other = [random.getrandbits(random.choice([1, 50, 900, 4000, 20000])) + 1 for number in range(3)]
            self.check(same * one, same * other)
            self.check(same * one, same * one + random.randrange(3))
            self.check(one << random.randrange(9000), other << random.randrange(9000))
            self.check(one * random.randrange(1, 99) + random.randrange(2), one)

    def test_divisors_where_all_quotients_are_small(self):
        one, other = 1, 1
        for turn in range(30000):
            one, other = other, one + other
        self.assertEqual(divisor(one, other), 1)
        self.assertEqual(divisor(one * 6, other * 10), 2 * divisor(one * 3, other * 5))

    def test_divisors_where_some_quotients_are_great(self):
        random = Random(8)
        for turn in range(200):
            one, other = 1, 0
            same = random.getrandbits(random.choice([1, 300, 5000])) + 1
            while one.bit_length() < 9000:
                quotient = random.getrandbits(random.choice([1, 1, 2, 3, 60, 100, 250, 1500])) + 1
                one, other = quotient * one + other, one
            self.assertEqual(divisor(one * same, other * same), same)

    def test_divisors_of_0(self):
        self.assertEqual([divisor(0, 0), divisor(0, 5), divisor(5, 0), divisor(0, 7 ** 5000)], [0, 5, 5, 7 ** 5000])


if __name__ == "__main__":
    unittest.main()
