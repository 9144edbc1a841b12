"""The examples of the document, call by call."""

import unittest

from branchdues.budgets import most, never_binds, passed
from branchdues.guarantees import least, raised, safe
from branchdues.houses import House
from branchdues.limits import binding, bound_by, reach, same_limits
from branchdues.protections import protected, reclaimed
from branchdues.trees import Tree


class ExamplesTest(unittest.TestCase):
    def same(self, found, wanted):
        """Equal, and of the same kinds throughout."""
        self.assertEqual(found, wanted)
        self.assertEqual(repr(found), repr(wanted))

    def test_claims_that_are_cut(self):
        t = Tree([("p", "", (("min", (10, 1)),)), ("a", "p", (("min", (8, 1)),)), ("b", "p", (("min", (8, 1)),))])
        found = protected(t, {"a": (8, 1), "b": (12, 1)}, "", "min")
        self.same(found, {"p": (10, 1), "a": (5, 1), "b": (5, 1)})

    def test_handing_on(self):
        t = Tree([("p", "", (("min", (10, 1)),)), ("a", "p", (("min", (2, 1)),)), ("b", "p", (("min", (4, 1)),))], True)
        found = protected(t, {"a": (8, 1), "b": (4, 1)}, "", "min")
        self.same(found, {"p": (10, 1), "a": (6, 1), "b": (4, 1)})

    def test_a_reclaim(self):
        t = Tree([("p", "", ()), ("a", "p", (("min", (5, 1)),)), ("b", "p", ())])
        found = reclaimed(t, {"a": (10, 1), "b": (15, 1)}, "p", (10, 1))
        self.same(found, ({"a": (15, 2), "b": (15, 2)}, (0, 1)))

    def test_the_least(self):
        t = Tree([("p", "", (("min", (10, 1)),)), ("g", "p", (("min", (5, 1)),)), ("s", "p", (("min", (15, 1)),))])
        found = least(t, "g", (8, 1), "", "min")
        self.same(found, ((5, 2), {"g": (8, 1), "s": (15, 1)}))

    def test_a_raise(self):
        t = Tree([("p", "", (("min", (10, 1)),)), ("g", "p", (("min", (5, 1)),)), ("s", "p", (("min", (15, 1)),))])
        r = raised(t, "g", "", "min", (6, 1))
        found = [safe(t, "g", "", "min"), r.due("p", "min"), r.due("g", "min"), safe(r, "g", "", "min")]
        self.same(found, [(0, 1), (21, 1), (6, 1), (6, 1)])

    def test_limits(self):
        t = Tree([("p", "", (("max", (10, 1)),)), ("a", "p", (("max", (6, 1)),)), ("b", "p", (("max", (7, 1)),))])
        found = [reach(t), binding(t), bound_by(t, "p")]
        self.same(found, [{"p": (10, 1), "a": (6, 1), "b": (7, 1)}, ["p", "a", "b"], {"a": (6, 1), "b": (4, 1)}])

    def test_the_same_limits(self):
        one = Tree([("p", "", (("max", (5, 1)),)), ("a", "p", (("max", (5, 1)),))])
        other = Tree([("a", "", (("max", (5, 1)),))])
        found = [same_limits(one, other), same_limits(one, other.with_due("a", "max", (6, 1)))]
        self.same(found, [None, {"a": (6, 1)}])

    def test_what_passes(self):
        t = Tree([("g", "", (("quota", (4, 1)), ("burst", (2, 1)))), ("a", "g", (("tops", (5, 1)),))])
        found = passed(t, [{}, {"a": (9, 1)}, {}])
        self.same(found, [{"g": (0, 1), "a": (0, 1)}, {"g": (5, 1), "a": (5, 1)}, {"g": (4, 1), "a": (4, 1)}])

    def test_the_most(self):
        rows = [("g", "", (("quota", (4, 1)), ("burst", (3, 1)))), ("a", "g", (("quota", (2, 1)), ("burst", (1, 1))))]
        t = Tree(rows + [("b", "g", (("quota", (2, 1)), ("burst", (2, 1))))])
        self.same([never_binds(t), most(t, "g", 3)], [["g"], (15, 1)])

    def test_a_house(self):
        h = House()
        self.same(h.do(("make", "", "g", "")), "done")
        self.same(h.do(("due", "", "g", "max", 10)), "done")
        self.same(h.do(("task", "", "t", "g")), "done")
        self.same(h.do(("task", "", "u", "g")), "done")
        self.same(h.do(("charge", "t", 6)), "done")
        self.same(h.do(("charge", "u", 3)), "done")
        self.same(h.do(("charge", "u", 4)), "done")
        self.same([h.pages("t"), h.pages("u"), h.events("g")], [{"g": 3}, {"g": 7}, (1, 0, 0, 3)])


if __name__ == "__main__":
    unittest.main()
