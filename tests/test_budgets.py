"""Promises [20] to [22]: what passes, remains and waits, and whether all wants are met."""

import unittest
from fractions import Fraction
from random import Random

from branchdues.budgets import all_met, passed, remains, unmet, waiting
from branchdues.trees import Tree
from helper import (
    INFINITY, due_of, leaves_of, plain_course, random_budgets, random_number, random_wants, row, told, uses_of)

HALF = Fraction(1, 2)
THIRD = Fraction(1, 3)
TINY = Fraction(1, 10 ** 300)


def wants_of(*periods):
    return [uses_of(**period) for period in periods]


class PassedTest(unittest.TestCase):
    def check(self, rows, wants, **wanted):
        """For each group what passes it in each period."""
        found = passed(Tree(rows), wants_of(*wants))
        self.assertIs(type(found), list)
        self.assertEqual(len(found), len(wants))
        for at, period in enumerate(found):
            self.assertEqual(repr(period), repr({name: told(wanted[name][at]) for name in wanted}))

    def test_a_budget(self):
        wants = [{"a": 2}, {"a": 7}, {}, {"a": 1}, {}, {}]
        self.check([row("a", quota=3)], wants, a=[2, 3, 3, 2, 0, 0])

    def test_a_burst(self):
        rows = [row("a", quota=3, burst=2)]
        # There is no burst in period 0, however much is wanted.
        self.check(rows, [{"a": 9}, {}, {}, {}], a=[3, 3, 3, 0])
        self.check(rows, [{"a": 1}, {"a": 9}, {}, {}], a=[1, 5, 3, 1])
        self.check(rows, [{}, {"a": 9}, {}, {}], a=[0, 5, 3, 1])
        self.check(rows, [{}, {}, {}, {"a": 9}], a=[0, 0, 0, 5])
        self.check(rows, [{"a": 3}, {"a": 2}, {"a": 9}, {}], a=[3, 2, 4, 3])

    def test_a_burst_that_takes_long_to_gather(self):
        self.check([row("a", quota=1, burst=3)], [{}, {}, {"a": 9}, {}, {}], a=[0, 0, 3, 1, 1])
        self.check([row("a", quota=1, burst=3)], [{}, {}, {}, {}, {"a": 9}], a=[0, 0, 0, 0, 4])

    def test_a_quota_of_0(self):
        self.check([row("a", quota=0, burst=5)], [{}, {"a": 1}, {}], a=[0, 0, 0])
        rows = [row("p", quota=0, burst=5), row("a", "p"), row("b")]
        self.check(rows, [{"a": 1, "b": 1}, {}], p=[0, 0], a=[0, 0], b=[1, 0])

    def test_endless_quotas(self):
        self.check([row("a"), row("b", burst=4)], [{"a": 9, "b": 8}, {}], a=[9, 0], b=[8, 0])
        rows = [row("p", burst=4), row("a", "p", quota=2), row("b", "p")]
        self.check(rows, [{"a": 9, "b": 8}, {}], p=[10, 2], a=[2, 2], b=[8, 0])

    def test_tops(self):
        self.check([row("a", tops=2), row("b", tops=0)], [{"a": 5, "b": 1}, {}, {}, {}], a=[2, 2, 1, 0], b=[0] * 4)
        self.check([row("a", quota=3, burst=3, tops=4)], [{}, {"a": 12}, {}, {}], a=[0, 4, 4, 4])
        self.check([row("a", quota=3, burst=3, tops=7)], [{}, {"a": 12}, {}, {}], a=[0, 6, 3, 3])

    def test_offers_that_are_cut_in_proportion(self):
        rows = [row("p", quota=6), row("a", "p"), row("b", "p"), row("c", "p")]
        self.check(rows, [{"a": 4, "b": 8}, {}, {}], p=[6, 6, 0], a=[2, 2, 0], b=[4, 4, 0], c=[0, 0, 0])
        # The offers are cut, not the wants.
        rows = [row("p", quota=6), row("a", "p", tops=3), row("b", "p", quota=6)]
        self.check(rows, [{"a": 90, "b": 90}, {}], p=[6, 6], a=[2, 2], b=[4, 4])

    def test_what_is_cut_is_not_taken_from_a_budget(self):
        rows = [row("p", quota=4), row("a", "p", quota=3, burst=9), row("b", "p")]
        self.check(rows, [{"a": 3, "b": 3}, {"a": 3}, {}], p=[4, 4, 1], a=[2, 4 - Fraction(4, 5), Fraction(4, 5)],
                   b=[2, Fraction(4, 5), 1 - Fraction(4, 5)])

    def test_budgets_on_several_levels(self):
        rows = [
            row("p", quota=8), row("q", "p", quota=6), row("a", "q"), row("b", "q"), row("c", "p", quota=6),
            row("d"),
        ]
        # q and c offer 6 each, and 4 of it pass.
        self.check(rows, [{"a": 3, "b": 9, "c": 7, "d": 1}], p=[8], q=[4], a=[1], b=[3], c=[4], d=[1])

    def test_no_periods_and_no_groups(self):
        self.assertEqual(passed(Tree([row("a")]), []), [])
        self.assertEqual(passed(Tree([]), [{}, {}]), [{}, {}])

    def test_fractions(self):
        rows = [row("p", quota=THIRD, burst=HALF), row("a", "p"), row("b", "p")]
        self.check(rows, [{}, {"a": HALF, "b": 1}, {}], p=[0, THIRD + THIRD, THIRD],
                   a=[0, 2 * THIRD * THIRD, THIRD * THIRD], b=[0, 4 * THIRD * THIRD, 2 * THIRD * THIRD])

    def test_like_a_plain_reckoning(self):
        random = Random(1)
        for turn in range(600):
            tree = random_budgets(random)
            wants = random_wants(random, tree)
            course = plain_course(tree, wants)
            for function, wanted in zip((passed, remains, waiting), course):
                found = function(tree, wants)
                self.assertEqual(found, [{name: told(one) for name, one in period.items()} for period in wanted])
                self.assertEqual([list(period) for period in found], [list(period) for period in wanted])

    def test_what_passes_in_all(self):
        """What passes a group passes its children, and budgets are kept in each run of periods."""
        random = Random(2)
        for turn in range(200):
            tree = random_budgets(random)
            found = passed(tree, random_wants(random, tree, 6))
            for name in tree.names():
                own = [Fraction(*period[name]) for period in found]
                for at, period in enumerate(found):
                    if tree.children(name):
                        self.assertEqual(sum(Fraction(*period[child]) for child in tree.children(name)), own[at])
                for i in range(len(own)):
                    for j in range(i, len(own)):
                        burst = due_of(tree, name, "burst") if i else 0
                        self.assertLessEqual(sum(own[i:j + 1]), (j - i + 1) * due_of(tree, name, "quota") + burst)


class RemainsTest(unittest.TestCase):
    def check(self, rows, wants, **wanted):
        found = remains(Tree(rows), wants_of(*wants))
        self.assertEqual(len(found), len(wants))
        for at, period in enumerate(found):
            self.assertEqual(repr(period), repr({name: told(wanted[name][at]) for name in wanted}))

    def test_what_is_left(self):
        rows = [row("p", quota=5, burst=3), row("a", "p", quota=2), row("b", "p"), row("c", quota=0, burst=1)]
        wants = [{"a": 1, "b": 1, "c": 1}, {}, {"a": 3, "b": 9}, {"c": 1}]
        # In period 2 the offers are 2 and 9, in period 3 they are 2 and 2 5/11.
        a = 2 - Fraction(16, 11)
        b = 9 - Fraction(72, 11) + 1 + a
        self.check(rows, wants, p=[3, 8, 0, 5 - b], a=[1, 2, a, 1 - a], c=[0, 0, 0, 0])

    def test_endless_ones_have_nothing_left(self):
        self.check([row("a"), row("b", burst=4)], [{"a": 1}, {}])

    def test_in_period_0(self):
        self.check([row("a", quota=2, burst=5)], [{}, {}, {}, {}, {}], a=[2, 4, 6, 7, 7])
        self.check([row("a", quota=2, burst=5)], [{"a": 9}, {}], a=[0, 0])


class WaitingTest(unittest.TestCase):
    def check(self, rows, wants, **wanted):
        found = waiting(Tree(rows), wants_of(*wants))
        self.assertEqual(len(found), len(wants))
        for at, period in enumerate(found):
            self.assertEqual(repr(period), repr({name: told(wanted[name][at]) for name in wanted}))

    def test_what_waits(self):
        rows = [row("p", quota=3), row("a", "p"), row("b", "p", tops=1), row("c")]
        # Of the offers 5 and 1, then of 5/2 and 1, 3 pass.
        self.check(rows, [{"a": 5, "b": 2, "c": 9}, {}, {"b": 1}, {}], a=[5 * HALF, Fraction(5, 14), 0, 0],
                   b=[3 * HALF, Fraction(9, 14), Fraction(9, 14), 0], c=[0, 0, 0, 0])

    def test_what_is_never_met(self):
        self.check([row("a", quota=0), row("b", tops=0)], [{"a": 1}, {"a": 2, "b": 1}, {}], a=[1, 3, 3], b=[0, 1, 1])


class MetTest(unittest.TestCase):
    def check(self, rows, wants, wanted):
        tree, wants = Tree(rows), wants_of(*wants)
        found = unmet(tree, wants)
        self.assertEqual(repr(found), repr(wanted))
        self.assertIs(all_met(tree, wants), wanted is None)
        self.assertEqual(passed_in_time(tree, wants), wanted is None)

    def test_a_budget(self):
        rows = [row("a", quota=3)]
        self.check(rows, [{"a": 3}, {"a": 3}], None)
        self.check(rows, [{"a": 3 + TINY}, {}], ("a", 0, 0))
        self.check(rows, [{"a": 3}, {}, {"a": 4}], ("a", 2, 2))
        self.check(rows, [{}, {}, {"a": 4}], ("a", 2, 2))
        self.check([], [{}, {}], None)
        self.check(rows, [], None)

    def test_a_burst(self):
        rows = [row("a", quota=3, burst=2)]
        self.check(rows, [{"a": 1}, {"a": 5}, {"a": 3}], None)
        self.check(rows, [{"a": 1}, {"a": 5}, {"a": 3 + TINY}], ("a", 0, 2))
        self.check(rows, [{}, {"a": 5}, {"a": 3 + TINY}], ("a", 1, 2))
        self.check(rows, [{"a": 1}, {"a": 5}, {"a": 4}], ("a", 0, 2))
        self.check(rows, [{}, {"a": 5}, {"a": 4}], ("a", 1, 2))
        self.check(rows, [{"a": 4}, {}], ("a", 0, 0))
        self.check(rows, [{"a": 3}, {"a": 6}, {"a": 9}], ("a", 0, 1))

    def test_from_period_0_there_is_no_burst(self):
        rows = [row("a", quota=1, burst=9)]
        self.check(rows, [{}, {}, {}, {"a": 4}], None)
        self.check(rows, [{}, {}, {}, {"a": 5}], ("a", 0, 3))

    def test_a_quota_of_0(self):
        rows = [row("a", quota=0, burst=5)]
        self.check(rows, [{}, {}, {}], None)
        self.check(rows, [{}, {"a": TINY}, {}], ("a", 0, 1))

    def test_endless_quotas(self):
        self.check([row("a", burst=0), row("p"), row("b", "p")], [{"a": 9, "b": 10 ** 300}], None)

    def test_tops(self):
        self.check([row("a", tops=2)], [{"a": 2}, {"a": 2}], None)
        self.check([row("a", tops=2)], [{"a": 2}, {"a": 2 + TINY}, {"a": 3}], ("a", 1, 1))
        self.check([row("a", tops=0)], [{"a": 0}, {}], None)
        self.check([row("a", tops=2, quota=9)], [{}, {"a": 3}], ("a", 1, 1))
        # The run that begins first comes first, of those the one that ends first.
        self.check([row("a", tops=2, quota=1)], [{"a": 1}, {"a": 3}], ("a", 0, 1))
        self.check([row("a", tops=2, quota=1, burst=9)], [{}, {}, {"a": 3}, {"a": 9}], ("a", 0, 3))
        self.check([row("a", tops=2, quota=1, burst=1)], [{}, {}, {"a": 3}, {"a": 9}], ("a", 0, 3))
        self.check([row("a", tops=2, quota=3, burst=1)], [{}, {}, {"a": 3}, {"a": 3}], ("a", 2, 2))

    def test_the_first_group(self):
        rows = [row("q", quota=5), row("p", quota=9), row("b", "p", quota=1), row("a", "p", quota=1), row("c", "q")]
        self.check(rows, [{"a": 2}, {"b": 2}], ("b", 1, 1))
        self.check(rows, [{"a": 2}, {"b": 1}], ("a", 0, 0))
        self.check(rows, [{"a": 2, "b": 2}, {"b": 2, "c": 11}], ("q", 0, 1))
        self.check(rows, [{"a": 2, "b": 8}, {"b": 2}], ("p", 0, 0))
        self.check(rows[1:4], [{"a": 9}, {"b": 10}], ("p", 0, 1))

    def test_groups_add_up(self):
        rows = [row("p", quota=5, burst=1), row("a", "p"), row("q", "p"), row("b", "q"), row("c", "q")]
        self.check(rows, [{"a": 1, "b": 1, "c": 2}, {"a": 2, "b": 2, "c": 2}], None)
        self.check(rows, [{"a": 1, "b": 1, "c": 2 + TINY}, {"a": 2, "b": 2, "c": 2}], ("p", 0, 1))
        self.check(rows, [{"a": 1}, {"a": 2, "b": 2, "c": 2 + TINY}], ("p", 1, 1))

    def test_like_what_passes(self):
        random = Random(3)
        seen = {True: 0, False: 0}
        for turn in range(1500):
            tree = random_budgets(random, 4)
            wants = random_wants(random, tree, 4)
            if turn % 2:
                wants = [{leaf: told(Fraction(*want) / 5) for leaf, want in period.items()} for period in wants]
            found = unmet(tree, wants)
            met = passed_in_time(tree, wants)
            seen[met] += 1
            self.assertIs(all_met(tree, wants), met)
            self.assertEqual(found, next(plain_runs(tree, wants), None))
        self.assertGreater(min(seen.values()), 200)


def passed_in_time(tree, wants):
    """Whether what is wanted passes in its own period."""
    for period, wanted in zip(passed(tree, wants), wants):
        if any(period[leaf] != wanted.get(leaf, (0, 1)) for leaf in tree.leaves()):
            return False
    return True


def plain_runs(tree, wants):
    """All runs with which wants are not met, in the order of the document."""
    for name in tree.names():
        leaves = leaves_of(tree, name)
        own = [sum(Fraction(*wanted.get(leaf, (0, 1))) for leaf in leaves) for wanted in wants]
        tops = due_of(tree, name, "tops") if name in leaves else INFINITY
        for i in range(len(own)):
            for j in range(i, len(own)):
                burst = due_of(tree, name, "burst") if i else 0
                if sum(own[i:j + 1]) > (j - i + 1) * due_of(tree, name, "quota") + burst or i == j and own[i] > tops:
                    yield name, i, j


if __name__ == "__main__":
    unittest.main()
