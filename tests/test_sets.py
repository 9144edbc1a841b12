"""Promise [25]: which processors groups have, and which stand alone."""

import unittest
from random import Random

from branchdues.sets import sets, stands_alone
from branchdues.trees import Tree
from helper import random_shape, row

WHOLE = (0, 1, 2, 3, 4, 5)


def plainly_handed(tree, whole):
    """What the document says of sets, word by word."""
    has, alone = {"": whole}, []

    def is_alone(child, group, ahead):
        asked = tree.due(child, "sets")
        if not tree.due(child, "alone") or group != "" and group not in alone:
            return False
        if not asked or not set(asked) <= set(has[group]):
            return False
        taken = set(asked)
        for other in ahead:
            if set(tree.due(other, "sets")) & set(asked):
                return False
            taken |= set(tree.due(other, "sets"))
        return len(set(has[group]) - taken) >= 1

    def hand_down(group):
        ahead = []
        for child in tree.children(group):
            if is_alone(child, group, ahead):
                ahead.append(child)
        alone.extend(ahead)
        free = set(has[group])
        for child in ahead:
            has[child] = tree.due(child, "sets")
            free -= set(has[child])
        for child in tree.children(group):
            if child not in ahead:
                asked = set(tree.due(child, "sets") or ()) & free
                has[child] = tuple(sorted(asked or free))
        for child in tree.children(group):
            hand_down(child)

    hand_down("")
    return {name: has[name] for name in tree.names()}, [name for name in tree.names() if name in alone]


class SetsTest(unittest.TestCase):
    def check(self, rows, alone=(), whole=WHOLE, **wanted):
        tree = Tree(rows)
        self.assertEqual(repr(sets(tree, whole)), repr(wanted))
        self.assertEqual(stands_alone(tree, whole), list(alone))

    def test_who_asks_for_nothing_has_all_that_is_free(self):
        self.check([row("a"), row("b", sets=()), row("c", "b"), row("d", sets=None)], a=WHOLE, b=WHOLE, c=WHOLE, d=WHOLE)
        self.check([row("a")], a=(7,), whole=(7,))
        self.check([])

    def test_sets_in_part_or_not_at_all_free(self):
        rows = [row("a", sets=(1, 3)), row("b", sets=(3, 4, 9)), row("c", sets=(8, 9)), row("d", "b", sets=(1, 4))]
        self.check(rows, a=(1, 3), b=(3, 4), c=WHOLE, d=(4,))
        rows = [row("a", sets=(0, 1), alone=1), row("b", sets=(1, 2)), row("c", sets=(0, 1)), row("d")]
        free = (2, 3, 4, 5)
        self.check(rows, ["a"], a=(0, 1), b=(2,), c=free, d=free)

    def test_children_of_one_that_has_less(self):
        rows = [row("p", sets=(2, 3, 4)), row("a", "p", sets=(4, 5)), row("b", "p"), row("c", "p", sets=(0, 1))]
        self.check(rows, p=(2, 3, 4), a=(4,), b=(2, 3, 4), c=(2, 3, 4))

    def test_marked_ahead_of_and_behind_others(self):
        rows = [row("a"), row("b", sets=(4, 5), alone=1), row("c", sets=(0, 5)), row("d", sets=(0,), alone=1)]
        self.check(rows, ["b", "d"], a=(1, 2, 3), b=(4, 5), c=(1, 2, 3), d=(0,))

    def test_a_set_that_is_left_out_or_empty(self):
        self.check([row("a", alone=1), row("b", sets=(), alone=1), row("c", sets=None, alone=1)],
                   a=WHOLE, b=WHOLE, c=WHOLE)

    def test_a_set_without_a_mark(self):
        self.check([row("a", sets=(1,)), row("b", sets=(1,), alone=0), row("c")], a=(1,), b=(1,), c=WHOLE)

    def test_a_group_above_that_does_not_stand_alone(self):
        rows = [row("p", sets=(1, 2)), row("a", "p", sets=(1,), alone=1), row("b", "p")]
        self.check(rows, p=(1, 2), a=(1,), b=(1, 2))
        self.check([row("p", sets=(1, 2), alone=1)] + rows[1:], ["p", "a"], p=(1, 2), a=(1,), b=(2,))
        # p is marked, but has nothing that it asks for.
        self.check([row("p", sets=(1, 9), alone=1)] + rows[1:], p=(1,), a=(1,), b=(1,))

    def test_a_set_that_the_group_above_has_not(self):
        self.check([row("a", sets=(5, 6), alone=1), row("b")], a=(5,), b=WHOLE)
        self.check([row("a", sets=(63,), alone=1), row("b")], a=WHOLE, b=WHOLE)
        rows = [row("p", sets=(1, 2, 3), alone=1), row("a", "p", sets=(0, 1), alone=1), row("b", "p", sets=(2,), alone=1)]
        self.check(rows, ["p", "b"], p=(1, 2, 3), a=(1,), b=(2,))

    def test_a_set_of_another_one_ahead(self):
        rows = [row("a", sets=(0, 1), alone=1), row("b", sets=(1, 2), alone=1), row("c", sets=(2,), alone=1)]
        self.check(rows, ["a", "c"], a=(0, 1), b=(3, 4, 5), c=(2,))
        rows = [row("a", sets=(0, 1)), row("b", sets=(1, 2), alone=1)]
        self.check(rows, ["b"], a=(0,), b=(1, 2))

    def test_one_processor_at_least_is_kept(self):
        self.check([row("a", sets=WHOLE, alone=1), row("b")], a=WHOLE, b=WHOLE)
        rows = [row("a", sets=(0, 1, 2), alone=1), row("b", sets=(3, 4, 5), alone=1), row("c", sets=(3, 4), alone=1)]
        self.check(rows, ["a", "c"], a=(0, 1, 2), b=(5,), c=(3, 4))
        self.check([row("a", sets=(7,), alone=1)], a=(7,), whole=(7,))
        self.check([row("a", sets=(7,), alone=1)], ["a"], a=(7,), whole=(7, 8))

    def test_deeper_levels(self):
        rows = [
            row("p", sets=(0, 1, 2, 3), alone=1), row("q", "p", sets=(1, 2, 3), alone=1),
            row("a", "q", sets=(3,), alone=1), row("b", "q", sets=(3,)), row("c", "p", sets=(0, 1)),
            row("d", "a", sets=(3,), alone=1), row("e", "c", sets=(0,), alone=1), row("f"),
        ]
        self.check(rows, ["p", "q", "a"], p=(0, 1, 2, 3), q=(1, 2, 3), a=(3,), b=(1, 2), c=(0,), d=(3,), e=(0,),
                   f=(4, 5))

    def test_all_processors(self):
        whole = tuple(range(64))
        rows = [row("a", sets=whole[1:], alone=1), row("b", sets=(0,), alone=1), row("c")]
        self.check(rows, ["a"], whole, a=whole[1:], b=(0,), c=(0,))

    def test_like_a_plain_reckoning(self):
        random = Random(1)
        alone = 0
        for turn in range(1500):
            whole = tuple(sorted(random.sample(range(9), random.randrange(1, 10))))
            rows = []
            had = {"": whole}
            for name, above in random_shape(random):
                some = random.choice([had[above], had[above], whole, tuple(range(9))])
                many = random.randrange(len(some) + 1)
                had[name] = tuple(sorted(random.sample(some, random.choice([many, max(0, len(some) - 1)]))))
                rows.append(row(name, above, sets=random.choice([had[name]] * 4 + [None]),
                                alone=random.choice([0, 1, 1, 1])))
            tree = Tree(rows)
            wanted = plainly_handed(tree, whole)
            self.assertEqual((sets(tree, whole), stands_alone(tree, whole)), wanted)
            self.assertEqual(list(sets(tree, whole)), tree.names())
            self.assertTrue(all(sets(tree, whole).values()))
            alone += len([name for name in wanted[1] if tree.above(name)])
        self.assertGreater(alone, 100)


if __name__ == "__main__":
    unittest.main()
