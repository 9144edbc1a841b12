"""The examples of the document, call by call."""

import unittest

from branchdues.guarantees import least, raised, safe
from branchdues.protections import protected, reclaimed
from branchdues.trees import Tree


class ExamplesTest(unittest.TestCase):
    def same(self, found, wanted):
        """Equal, and of the same kinds throughout."""
        self.assertEqual(found, wanted)
        self.assertEqual(repr(found), repr(wanted))

    def test_claims_that_are_cut(self):
        t = Tree([("p", "", (("min", (10, 1)),)), ("a", "p", (("min", (8, 1)),)), ("b", "p", (("min", (8, 1)),))])
        found = protected(t, {"a": (8, 1), "b": (12, 1)}, "", "min")
        self.same(found, {"p": (10, 1), "a": (5, 1), "b": (5, 1)})

    def test_handing_on(self):
        t = Tree([("p", "", (("min", (10, 1)),)), ("a", "p", (("min", (2, 1)),)), ("b", "p", (("min", (4, 1)),))], True)
        found = protected(t, {"a": (8, 1), "b": (4, 1)}, "", "min")
        self.same(found, {"p": (10, 1), "a": (6, 1), "b": (4, 1)})

    def test_a_reclaim(self):
        t = Tree([("p", "", ()), ("a", "p", (("min", (5, 1)),)), ("b", "p", ())])
        found = reclaimed(t, {"a": (10, 1), "b": (15, 1)}, "p", (10, 1))
        self.same(found, ({"a": (15, 2), "b": (15, 2)}, (0, 1)))

    def test_the_least(self):
        t = Tree([("p", "", (("min", (10, 1)),)), ("g", "p", (("min", (5, 1)),)), ("s", "p", (("min", (15, 1)),))])
        found = least(t, "g", (8, 1), "", "min")
        self.same(found, ((5, 2), {"g": (8, 1), "s": (15, 1)}))

    def test_a_raise(self):
        t = Tree([("p", "", (("min", (10, 1)),)), ("g", "p", (("min", (5, 1)),)), ("s", "p", (("min", (15, 1)),))])
        r = raised(t, "g", "", "min", (6, 1))
        found = [safe(t, "g", "", "min"), r.due("p", "min"), r.due("g", "min"), safe(r, "g", "", "min")]
        self.same(found, [(0, 1), (21, 1), (6, 1), (6, 1)])


if __name__ == "__main__":
    unittest.main()
