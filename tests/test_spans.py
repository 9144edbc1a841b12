"""Promises [23] and [24]: the least budgets for wants, and what can pass in any number of periods."""

import unittest
from fractions import Fraction
from random import Random

from branchdues.budgets import all_met, least_burst, least_quota, most, never_binds, passed, unmet
from branchdues.trees import Tree
from helper import INFINITY, due_of, leaves_of, random_budgets, random_shape, random_wants, row, told, uses_of

HALF = Fraction(1, 2)
THIRD = Fraction(1, 3)
TINY = Fraction(1, 10 ** 300)


def alone(tree, name, **dues):
    """The tree in which only this group has a budget, with these dues; tops do not matter."""
    rows = []
    for one in tree.names():
        rows.append(row(one, tree.above(one)))
    found = Tree(rows)
    for word in ("quota", "burst"):
        found = found.with_due(name, word, told(dues[word]) if word in dues else tree.due(name, word))
    return found


class LeastTest(unittest.TestCase):
    def check_burst(self, tree, wants, name, wanted):
        found = least_burst(tree, wants, name)
        self.assertEqual(repr(found), repr(None if wanted is None else told(wanted)))
        self.try_burst(tree, wants, name)

    def try_burst(self, tree, wants, name):
        """With the told burst all is let by, with a little less it is not."""
        found = least_burst(tree, wants, name)
        if found is None:
            self.assertIs(all_met(alone(tree, name, burst=10 ** 400), wants), False)
            return
        self.assertIs(all_met(alone(tree, name, burst=Fraction(*found)), wants), True)
        if found[0]:
            for less in (TINY, Fraction(*found) / 7):
                self.assertIs(all_met(alone(tree, name, burst=Fraction(*found) - less), wants), False)

    def check_quota(self, tree, wants, name, wanted):
        self.assertEqual(repr(least_quota(tree, wants, name)), repr(told(wanted)))
        self.try_quota(tree, wants, name)

    def try_quota(self, tree, wants, name):
        found = Fraction(*least_quota(tree, wants, name))
        self.assertIs(all_met(alone(tree, name, quota=found), wants), True)
        if found:
            for less in (min(TINY, found), found / 7):
                self.assertIs(all_met(alone(tree, name, quota=found - less), wants), False)

    def test_a_burst(self):
        tree = Tree([row("a", quota=3, burst=99)])
        for wants, wanted in (
                ([], 0), ([3, 3, 3], 0), ([0, 4], 1), ([0, 4, 4], 2), ([0, 4, 1, 4], 1), ([0, 5, 0, 4], 2),
                ([0, 5, 2, 4], 2), ([1, 5, 2, 4], 2), ([2, 4, 3, 2], 1), ([3, 3, 4], None), ([4], None),
                ([4, 0], None), ([3 + TINY], None), ([0, 3 + TINY], TINY), ([1, 4, 4], 2), ([2, 4, 4], None)):
            wants = [{"a": told(want)} for want in wants]
            self.check_burst(tree, wants, "a", wanted)

    def test_a_burst_of_0_and_of_endless_quotas(self):
        tree = Tree([row("a"), row("b", quota=0), row("c", quota=0, burst=7)])
        wants = [{"a": (9, 1), "b": (0, 1)}, {"a": (10 ** 300, 1)}]
        self.check_burst(tree, wants, "a", 0)
        self.check_burst(tree, wants, "b", 0)
        self.check_burst(tree, wants, "c", 0)
        wants.append({"b": told(TINY), "c": (1, 1)})
        self.check_burst(tree, wants, "b", None)
        self.check_burst(tree, wants, "c", None)

    def test_a_group(self):
        rows = [row("p", quota=3), row("a", "p", quota=0), row("q", "p"), row("b", "q", tops=1), row("c")]
        wants = [uses_of(a=1, b=1, c=9), uses_of(a=2, b=3), uses_of(b=HALF)]
        self.check_burst(Tree(rows), wants, "p", None)
        wants = [uses_of(a=1, b=HALF, c=9), uses_of(a=2, b=2 + HALF), uses_of(b=3)]
        self.check_burst(Tree(rows), wants, "p", 1 + HALF)
        self.check_quota(Tree(rows), wants, "p", 4 + HALF)
        self.check_quota(Tree(rows), wants, "q", 3)
        self.check_quota(Tree(rows), wants, "c", 9)
        self.check_quota(Tree([row("p", quota=3, burst=9)] + rows[1:]), wants, "p", 3)

    def test_a_quota(self):
        for burst, wants, wanted in (
                (0, [], 0), (2, [], 0), (0, [0, 0], 0), (0, [3, 4, 3], 4), (1, [3, 4, 3], 3 + HALF),
                (1, [3, 3, 4], Fraction(10, 3)), (9, [0, 0, 9], 3), (9, [0, 0, 9, 9], 9 * HALF), (9, [5, 0], 5),
                (3, [0, 5, 4], 3), (1, [0, 5, 4], 4), (2, [0, 5, 4], 7 * HALF), (4, [0, 5, 4], 3),
                (THIRD, [0, TINY], TINY * HALF), (0, [TINY], TINY)):
            tree = Tree([row("a", quota=5, burst=burst)])
            self.check_quota(tree, [{"a": told(want)} for want in wants], "a", wanted)
            endless = tree.with_due("a", "quota", "endless")
            self.check_quota(endless, [{"a": told(want)} for want in wants], "a", wanted)

    def test_many_wants(self):
        random = Random(1)
        seen = {True: 0, False: 0}
        for turn in range(700):
            tree = random_budgets(random, 4)
            wants = random_wants(random, tree, 6)
            name = random.choice(tree.names())
            seen[least_burst(tree, wants, name) is None] += 1
            self.try_burst(tree, wants, name)
            self.try_quota(tree, wants, name)
        self.assertGreater(min(seen.values()), 50)

    def test_many_periods(self):
        random = Random(2)
        tree = Tree([row("a", quota=5, burst=20)])
        for turn in range(5):
            wants = [{"a": (random.randrange(9), 1)} for period in range(400)]
            self.try_burst(tree, wants, "a")
            self.try_quota(tree, wants, "a")


def plain_span(tree, name, many):
    """The most that a group lets through by itself in so many periods."""
    return min(plain_below(tree, name, many), plain_budget(tree, name, many))


def plain_budget(tree, name, many):
    quota = due_of(tree, name, "quota")
    return many * quota + due_of(tree, name, "burst") if quota else 0


def plain_below(tree, name, many):
    if tree.children(name):
        return sum(plain_span(tree, child, many) for child in tree.children(name))
    return many * due_of(tree, name, "tops")


def plain_rate(tree, name):
    return min(plain_rate_below(tree, name), due_of(tree, name, "quota"))


def plain_rate_below(tree, name):
    if tree.children(name):
        return sum(plain_rate(tree, child) for child in tree.children(name))
    return due_of(tree, name, "tops")


def whole_budgets(random, most=8):
    """A tree whose budgets show in few periods whether they bind."""
    shape = random_shape(random, most)
    rows = []
    for name, above in shape:
        dues = {"quota": random.choice([0, 1, 2, 3, 4, 6, 9, "endless"]), "burst": random.randrange(9)}
        if name not in [up for one, up in shape]:
            dues["tops"] = random.choice([0, 1, 2, 3, 5, 9, "endless"])
        rows.append(row(name, above, **dues))
    return Tree(rows)


class MostTest(unittest.TestCase):
    def check(self, rows, name, **wanted):
        """The wanted ones by the number of periods, as n1, n2 and so on."""
        for many in wanted:
            one = wanted[many] if wanted[many] == "endless" else told(wanted[many])
            self.assertEqual(repr(most(Tree(rows), name, int(many[1:]))), repr(one))

    def test_a_leaf(self):
        self.check([row("a", quota=3, burst=2)], "a", n1=5, n2=8, n10=32)
        self.check([row("a", quota=3, burst=2, tops=4)], "a", n1=4, n2=8, n3=11, n10=32)
        self.check([row("a", tops=HALF, burst=2)], "a", n1=HALF, n3=3 * HALF)
        self.check([row("a", burst=2)], "a", n1="endless", n9="endless")

    def test_a_quota_of_0(self):
        self.check([row("a", quota=0, burst=7)], "a", n1=0, n9=0)
        rows = [row("p", quota=0, burst=7), row("a", "p", quota=2), row("b", "p", tops=0), row("c", tops=0)]
        self.check(rows, "p", n1=0, n9=0)
        self.check(rows, "a", n1=0, n9=0)
        self.check(rows, "b", n1=0)
        self.check(rows, "c", n4=0)

    def test_budgets_above(self):
        rows = [row("p", quota=2, burst=9), row("q", "p", burst=8), row("a", "q", quota=3, burst=1), row("b", "q")]
        self.check(rows, "a", n1=4, n2=7, n8=25, n9=27, n10=29)
        self.check(rows, "b", n1=11, n2=13)
        self.check(rows, "q", n1=11, n2=13)
        self.check(rows, "p", n1=11, n2=13)

    def test_what_children_let_through(self):
        rows = [
            row("p", quota=9, burst=9), row("a", "p", quota=2, burst=3), row("q", "p", quota=4), row("b", "q", tops=1),
            row("c", "q", quota=1, burst=9), row("d"),
        ]
        # a: 5, 7, 9, q: b and c let 11, 13 and so on through, and q itself 4, 8, 12, 16.
        self.check(rows, "p", n1=9, n2=15, n3=21, n4=11 + 16, n5=13 + 19, n9=21 + 27)
        self.check(rows, "q", n1=4, n2=8, n3=12, n4=16, n5=19)
        self.check(rows, "d", n1="endless")
        self.check([row("p"), row("a", "p", quota=2), row("b", "p")], "p", n1="endless")

    def test_a_long_number_of_periods(self):
        many = 10 ** 300 + 7
        rows = [row("p"), row("a", "p", quota=THIRD, burst=HALF), row("b", "p", tops=TINY)]
        self.check(rows, "p", **{f"n{many}": many * THIRD + HALF + many * TINY})

    def test_like_a_plain_reckoning(self):
        random = Random(3)
        for turn in range(500):
            tree = random_budgets(random)
            name = random.choice(tree.names())
            many = random.choice([1, 2, 3, 7, 40, 10 ** 20])
            wanted = plain_span(tree, name, many)
            for above in tree.path(name):
                wanted = min(wanted, plain_budget(tree, above, many))
            found = most(tree, name, many)
            self.assertEqual(found, "endless" if wanted == INFINITY else told(wanted))

    def test_no_wants_let_more_pass(self):
        random = Random(4)
        for turn in range(150):
            tree = random_budgets(random, 4)
            found = passed(tree, [{leaf: (50, 1) for leaf in tree.leaves()} if random.random() < 0.6 else {}
                                  for period in range(6)])
            for name in tree.names():
                own = [Fraction(*period[name]) for period in found]
                for many in (1, 2, 3):
                    bound = most(tree, name, many)
                    for i in range(len(own) - many + 1):
                        self.assertTrue(bound == "endless" or sum(own[i:i + many]) <= Fraction(*bound))


class NeverBindsTest(unittest.TestCase):
    def check(self, rows, *wanted):
        self.assertEqual(never_binds(Tree(rows)), list(wanted))

    def test_leaves(self):
        self.check([row("a", quota=3, tops=3), row("b", quota=3, tops=4), row("c", quota=3, burst=9, tops=4)], "a")
        self.check([row("a", quota=3), row("b", quota=3, burst=9)])
        self.check([row("a", quota=3, tops=3 + TINY), row("b", quota=3, tops=3 - TINY)], "b")
        self.check([row("a", quota=0, tops=0), row("b", quota=0, burst=5, tops=0), row("c", quota=0, tops=TINY)],
                   "a", "b")
        self.check([])

    def test_endless_quotas(self):
        self.check([row("a"), row("b", tops=1), row("p", burst=3), row("c", "p", quota=1, tops=1)], "c")
        self.check([row("p", quota=99, burst=99), row("a", "p"), row("b", "p", quota=1)])

    def test_bursts(self):
        for burst, wanted in ((0, []), (2, []), (3 - TINY, []), (3, ["g"]), (4, ["g"])):
            rows = [row("g", quota=4, burst=burst), row("a", "g", quota=2, burst=1), row("b", "g", quota=2, burst=2)]
            self.check(rows, *wanted)

    def test_in_period_0_on(self):
        rows = [row("a", "g", quota=2), row("b", "g", quota=3)]
        self.check([row("g", quota=4, burst=10 ** 300)] + rows)
        self.check([row("g", quota=5 - TINY, burst=10 ** 300)] + rows)
        self.check([row("g", quota=5)] + rows, "g")
        # In the first period both offer 5 together.
        tree = Tree([row("g", quota=4, burst=99)] + rows)
        wants = [uses_of(a=9, b=9)]
        self.assertNotEqual(passed(tree, wants), passed(tree.with_due("g", "quota", "endless"), wants))

    def test_a_quota_of_0(self):
        self.check([row("g", quota=0, burst=9), row("a", "g", quota=TINY)])
        self.check([row("g", quota=0, burst=9), row("a", "g", quota=0, burst=4), row("b", "g", tops=0)], "g")
        self.check([row("g", quota=2), row("a", "g", quota=0, burst=4), row("b", "g", quota=2)], "g")

    def test_tops_that_hold_a_burst_back(self):
        # a lets 5, 9, 12 and so on through: no more than 4 * n + 1.
        rows = [row("a", "g", quota=3, burst=3, tops=5)]
        self.check([row("g", quota=4, burst=1)] + rows, "g")
        self.check([row("g", quota=4, burst=1 - TINY)] + rows)
        self.check([row("g", quota=3, burst=3)] + rows, "g")
        self.check([row("g", quota=3, burst=3 - TINY)] + rows)

    def test_between_two_whole_numbers_of_periods_nothing_binds(self):
        # a lets 2, 3, 7/2 through; the lines of its tops and its budget meet at 4/3 periods, at 8/3.
        rows = [row("a", "g", quota=HALF, burst=2, tops=2)]
        self.check([row("g", quota=1, burst=1)] + rows, "g")
        self.check([row("g", quota=1, burst=1 - TINY)] + rows)

    def test_lines_that_meet_close_to_each_other(self):
        # In 1, 2 and 3 periods 9, 17 and 23 pass; the lines bend at 3/2 and 5/2.
        rows = [
            row("a", "g", quota=1, burst=3, tops=3), row("b", "g", quota=2, burst=5, tops=4),
            row("c", "g", quota=5, burst=10, tops=2),
        ]
        self.check([row("g", quota=8, burst=1)] + rows, "g", "c")
        self.check([row("g", quota=8, burst=1 - TINY)] + rows, "c")

    def test_budgets_of_groups_below(self):
        rows = [row("a", "q", quota=9, burst=9, tops=4), row("b", "q", quota=1, tops=1), row("c", "g", quota=2)]
        self.check([row("g", quota=5, burst=2), row("q", "g", quota=3, burst=2)] + rows, "g", "a", "b")
        self.check([row("g", quota=5, burst=1), row("q", "g", quota=3, burst=2)] + rows, "a", "b")

    def test_budgets_above_do_not_matter(self):
        rows = [row("g", quota=1), row("q", "g", quota=3), row("a", "q", quota=2), row("b", "q", quota=1)]
        self.check(rows, "q")

    def test_behind_more_periods_than_can_be_counted(self):
        for quota, wanted in ((4, []), (4 - TINY / 10, []), (4 - TINY * 10, ["g"])):
            # The tops pass the budget of g behind 3 * 10 ** 300 periods, if a budget of 4 * n + 4 is still above.
            rows = [row("g", quota=4, burst=3), row("a", "g", quota=quota, burst=4, tops=4 + TINY)]
            self.check(rows, *wanted)
        rows = [row("g", quota=4, burst=3), row("a", "g", quota=4, burst=3, tops=4 + TINY)]
        self.check(rows, "g")

    def test_behind_just_so_many_periods(self):
        """Which number of periods it is seen in is told by most."""
        long = 10 ** 300
        rows = [row("a", "g", quota=4, burst=long, tops=4 + THIRD)]
        self.check([row("g", quota=4, burst=long)] + rows, "g")
        self.check([row("g", quota=4, burst=long - 1)] + rows)
        tree = Tree([row("g")] + rows)
        self.assertEqual(most(tree, "a", 3 * long - 3), told(4 * (3 * long - 3) + long - 1))
        self.assertEqual(most(tree, "a", 3 * long), told(4 * 3 * long + long))

    def test_several_lines(self):
        rows = [
            row("p", "g", quota=3, burst=10 ** 9), row("a", "p", quota=1, burst=10 ** 12, tops=5),
            row("b", "p", quota=1, burst=10 ** 15, tops=7), row("c", "g", quota=1, burst=10 ** 6, tops=2),
            row("q", "g", quota=HALF, burst=7), row("d", "q", quota=THIRD, burst=9),
        ]
        # The most beyond 5 * n is at 111111112 periods, where p's own budget begins to count.
        for quota, burst in ((5, 926925934 + THIRD), (4, Fraction(10 ** 15 + 10 ** 12 - 10 ** 9, 3) + 1001000009)):
            self.check([row("g", quota=quota, burst=burst)] + rows, "g")
            self.check([row("g", quota=quota, burst=burst + TINY)] + rows, "g")
            self.check([row("g", quota=quota, burst=burst - TINY)] + rows)
        self.check([row("g", quota=3, burst=10 ** 300)] + rows)

    def test_like_a_plain_reckoning(self):
        random = Random(5)
        seen = {True: 0, False: 0}
        for turn in range(600):
            tree = whole_budgets(random)
            wanted = []
            for name in tree.names():
                quota = due_of(tree, name, "quota")
                if quota != INFINITY:
                    never = plain_rate_below(tree, name) <= quota
                    # The quotas differ by 1 at least, and all bursts together are no more than 72.
                    never = never and all(
                        plain_below(tree, name, many) <= plain_budget(tree, name, many) for many in range(1, 75))
                    seen[never] += 1
                    if never:
                        wanted.append(name)
            self.assertEqual(never_binds(tree), wanted)
        self.assertGreater(min(seen.values()), 100)

    def test_what_never_binds_changes_nothing(self):
        random = Random(6)
        for turn in range(150):
            tree = whole_budgets(random, 5)
            for name in never_binds(tree):
                free = tree
                for above in tree.path(name)[1:]:
                    free = free.with_due(above, "quota", "endless")
                wants = [{leaf: (random.choice([0, 3, 40]), 1) for leaf in tree.leaves()} for period in range(5)]
                self.assertEqual(passed(free, wants), passed(free.with_due(name, "quota", "endless"), wants))

    def test_what_binds_can_be_shown(self):
        """All bursts are full behind 10 periods; then all want as much as can pass."""
        random = Random(7)
        shown = 0
        for turn in range(200):
            tree = whole_budgets(random, 5)
            never = never_binds(tree)
            for name in tree.names():
                quota = due_of(tree, name, "quota")
                if quota == INFINITY or name in never:
                    continue
                free = tree
                for above in tree.path(name)[1:]:
                    free = free.with_due(above, "quota", "endless")
                if min(due_of(tree, one, "quota") for one in tree.names()) == 0:
                    continue
                many = [one for one in range(1, 5) if plain_below(tree, name, one) > plain_budget(tree, name, one)]
                begin = 10 if many else 0
                if not many and plain_rate_below(tree, name) <= quota:
                    continue
                much = {leaf: (10 ** 6, 1) for leaf in leaves_of(tree, name)}
                wants = [{} for period in range(begin)] + [much for period in range(4)]
                self.assertNotEqual(passed(free, wants), passed(free.with_due(name, "quota", "endless"), wants))
                shown += 1
        self.assertGreater(shown, 50)


class UnmetAloneTest(unittest.TestCase):
    def test_a_least_budget_meets_its_wants(self):
        tree = Tree([row("p", quota=1, burst=1), row("a", "p"), row("b", "p")])
        wants = [uses_of(a=1, b=2), uses_of(a=7), uses_of(b=HALF)]
        self.assertEqual(unmet(tree, wants), ("p", 0, 0))
        better = tree.with_due("p", "quota", least_quota(tree, wants, "p"))
        self.assertIsNone(unmet(better, wants))
        better = tree.with_due("p", "quota", (5, 1))
        self.assertIsNone(unmet(better.with_due("p", "burst", least_burst(better, wants, "p")), wants))


if __name__ == "__main__":
    unittest.main()
