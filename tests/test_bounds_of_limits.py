"""The bounds of [2] for limits, budgets, sets and houses: each call is answered in time."""

import unittest
from fractions import Fraction
from random import Random

from branchdues.budgets import (
    all_met, least_burst, least_quota, most, never_binds, passed, remains, unmet, waiting)
from branchdues.houses import House, replayed
from branchdues.limits import binding, bound_by, lets, reach, same_limits
from branchdues.protections import reclaimed
from branchdues.sets import sets, stands_alone
from branchdues.trees import Tree
from helper import in_time, number_of, plain_course, told
from test_bounds import GROUPS, bottom_rows, deep_rows, long_fraction, long_whole, name_of, part_of, wide_rows

BUDGET_WORDS = ("max", "quota", "burst")


def tree_of(shape, random, amount):
    """A tree of 60 groups and 12 levels at the most, in which all dues are as long as they may be."""
    rows = shape(random, amount)
    above = {row[1]: True for row in rows}
    found = []
    for name, up, dues in rows:
        more = tuple((word, amount(random)) for word in BUDGET_WORDS)
        tops = () if name in above else (("tops", amount(random)),)
        found.append((name, up, dues + more + tops))
    return Tree(found)


class BoundsTest(unittest.TestCase):
    def trees(self):
        for amount in (long_whole, long_fraction):
            for shape in (deep_rows, wide_rows, bottom_rows):
                random = Random(f"{amount.__name__} {shape.__name__}")
                with self.subTest(f"{amount.__name__} {shape.__name__}"):
                    yield tree_of(shape, random, amount), amount, random

    def all_limits(self, tree):
        room = in_time(self, reach, tree)
        bound = in_time(self, binding, tree)
        for name in tree.names():
            uses = in_time(self, bound_by, tree, name)
            self.assertEqual(uses is not None, name in bound)
            if uses is not None:
                self.assertIs(in_time(self, lets, tree, uses), True)
        return room

    def all_budgets(self, tree, wants):
        first, last = tree.names()[0], tree.leaves()[-1]
        found = in_time(self, unmet, tree, wants)
        self.assertEqual(in_time(self, all_met, tree, wants), found is None)
        for name in (first, last):
            burst = in_time(self, least_burst, tree, wants, name)
            self.assertTrue(burst is None or burst[0] >= 0)
            quota = in_time(self, least_quota, tree, wants, name)
            better = tree.with_due(name, "quota", quota)
            self.assertNotEqual(in_time(self, least_burst, better, wants, name), None)
            for many in (1, 10 ** 300):
                in_time(self, most, tree, name, many)
        in_time(self, never_binds, tree)

    def test_limits(self):
        for tree, amount, random in self.trees():
            room = self.all_limits(tree)
            for name in tree.names():
                below = sum(number_of(room[child]) for child in tree.children(name))
                self.assertLessEqual(number_of(room[name]), below or number_of(room[name]))
            self.assertIsNone(in_time(self, same_limits, tree, tree))
            leaf = tree.leaves()[-1]
            least = min(tree.path(leaf), key=lambda name: number_of(tree.due(name, "max")))
            less = tree.with_due(leaf, "max", told(number_of(tree.due(least, "max")) - Fraction(1, 10 ** 300)))
            uses = in_time(self, same_limits, less, tree)
            self.assertNotEqual(in_time(self, lets, less, uses), in_time(self, lets, tree, uses))

    def test_limits_that_were_told(self):
        for tree, amount, random in self.trees():
            uses = {leaf: amount(random) for leaf in tree.leaves()}
            left = reclaimed(tree, uses, "", part_of(uses, Fraction(1, 3)))[0]
            for leaf in tree.leaves()[::5]:
                tree = tree.with_due(leaf, "max", left[leaf])
            in_time(self, lets, tree, left)
            in_time(self, reach, tree)
            in_time(self, binding, tree)
            in_time(self, bound_by, tree, tree.leaves()[0])
            self.assertIsNone(in_time(self, same_limits, tree, tree))

    def test_budgets(self):
        for tree, amount, random in self.trees():
            for periods in (1, 5):
                wants = [{leaf: amount(random) for leaf in tree.leaves()} for period in range(periods)]
                self.all_budgets(tree, wants)

    def test_budgets_and_wants_that_were_told(self):
        for tree, amount, random in self.trees():
            wants = [{leaf: amount(random) for leaf in tree.leaves()} for period in range(2)]
            found = passed(tree, wants[:1])[0]
            more = {leaf: found[leaf] for leaf in tree.leaves()}
            for leaf in tree.leaves()[::5]:
                tree = tree.with_due(leaf, "quota", found[leaf])
            self.all_budgets(tree, [more, wants[1], more])
            in_time(self, passed, tree, [more])

    def test_what_passes(self):
        """Each period that is cut on many levels makes what passes much longer: fractions in two, whole ones in five."""
        for tree, amount, random in self.trees():
            many = 5 if amount == long_whole else 2
            wants = [{leaf: amount(random) for leaf in tree.leaves()} for period in range(many)]
            found = in_time(self, passed, tree, wants)
            self.assertEqual(len(found), many)
            for function in (remains, waiting):
                self.assertEqual(len(in_time(self, function, tree, wants)), many)
            if amount == long_whole:
                course = plain_course(tree, wants[:1])
                self.assertEqual(found[0], {name: told(one) for name, one in course[0][0].items()})

    def test_many_periods(self):
        """Where nothing is cut amounts stay short."""
        random = Random(1)
        tree = tree_of(wide_rows, random, long_whole)
        for name in tree.names():
            for word in ("quota", "tops") if not tree.children(name) else ("quota",):
                tree = tree.with_due(name, word, (random.randrange(10 ** 302, 10 ** 303), 1))
        wants = [{leaf: long_whole(random) for leaf in tree.leaves()} for period in range(40)]
        found = in_time(self, passed, tree, wants)
        self.assertEqual([{leaf: period[leaf] for leaf in tree.leaves()} for period in found], wants)
        self.assertIsNone(in_time(self, unmet, tree, wants))
        name = tree.names()[0]
        self.assertEqual(in_time(self, least_burst, tree, wants, name), (0, 1))
        in_time(self, least_quota, tree, wants, name)

    def test_never_binds_far_away(self):
        """All budgets differ by as good as nothing, so that they bind behind numbers of periods that are as long."""
        random = Random(2)

        def close(random):
            return told(5 + Fraction(random.randrange(10 ** 5), 10 ** 300))

        shape = deep_rows(random, close)
        rows = []
        for at, (name, above, dues) in enumerate(shape):
            children = len([one for one in shape if one[1] == name])
            tops = () if children else (("tops", close(random)),)
            many = len([one for one in shape if one[0] == name or name in path_in(shape, one[0])])
            quota = told(many * Fraction(*close(random)))
            rows.append((name, above, (("quota", quota), ("burst", (random.randrange(10 ** 300), 1))) + tops))
        tree = Tree(rows)
        found = in_time(self, never_binds, tree)
        self.assertTrue(0 < len(found) < GROUPS)

    def test_sets(self):
        random = Random(3)
        whole = tuple(range(64))
        for turn in range(5):
            had = {"": whole}
            rows = []
            for name, above, dues in wide_rows(random, long_whole):
                had[name] = tuple(sorted(random.sample(had[above], max(1, len(had[above]) // 2))))
                rows.append((name, above, (("sets", had[name]), ("alone", random.randrange(2)))))
            tree = Tree(rows)
            found = in_time(self, sets, tree, whole)
            for name in in_time(self, stands_alone, tree, whole):
                self.assertEqual(found[name], had[name])


def path_in(rows, name):
    above = {row[0]: row[1] for row in rows}
    path = []
    while name:
        path.append(name)
        name = above[name]
    return path


class HousesTest(unittest.TestCase):
    def history(self, shape, big):
        """60 groups with all dues, and some hundred charges in them."""
        random = Random(f"{shape.__name__} {big}")

        def pages(least, most):
            return random.randrange(least * big, most * big)

        rows = []
        places = [(name, above) for name, above, dues in shape(random, long_whole)]
        for name, above in places:
            rows.append(("make", "", name, above))
            rows += [("due", "", name, "min", pages(1, 100)), ("due", "", name, "low", pages(1, 100))]
            rows += [("due", "", name, "max", pages(150, 400)), ("due", "", name, "high", pages(100, 300))]
        leaves = [name for name, above in places if name not in [up for one, up in places]]
        tasks = [name_of(at // 10) + name_of(at % 10) for at in range(100)]
        rows += [("task", "", task, random.choice(leaves)) for task in tasks]
        rows += [("charge", random.choice(tasks), pages(1, 60)) for charge in range(300)]
        rows += [("move", "", random.choice(tasks), random.choice(leaves)) for move in range(50)]
        return rows + [("reclaim", "", name, pages(1, 40)) for name, above in places]

    def test_houses(self):
        for shape in (deep_rows, wide_rows, bottom_rows):
            for big in (1, 10 ** 298):
                with self.subTest(shape.__name__, big=big):
                    house = House()
                    for row in self.history(shape, big):
                        task = {"charge": row[1], "move": row[-2]}.get(row[0])
                        if task is None or task not in house.ended():
                            in_time(self, house.do, row)
                    other = in_time(self, replayed, house.rows())
                    self.assertTrue(in_time(self, lambda: other == house))
                    names = house_groups(house)
                    self.assertEqual(len(names), GROUPS)
                    self.assertGreater(sum(house.events(name)[0] + house.events(name)[1] for name in names), 50)
                    uses = {name: house.use(name) for name in names}
                    tasks = [task for name in names for task in house.tasks(name)]
                    for name in names:
                        below = sum(uses[child] for child in house.children(name))
                        self.assertEqual(uses[name], below if house.children(name) else uses[name])
                        own = sum(house.pages(task).get(name, 0) for task in tasks)
                        self.assertEqual(own, 0 if house.children(name) else uses[name])


def house_groups(house):
    names = house.children("")
    for name in names:
        names += house.children(name)
    return names


if __name__ == "__main__":
    unittest.main()
