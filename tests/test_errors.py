"""The error classes of the interface."""

import copy
import unittest

from branchdues import errors

PLAIN = (
    "NoName", "NoWord", "NoDue", "NoUses", "NoKind", "NoAmount", "NoLeaves", "NoWants", "NoNumber", "NoSet", "NoRow")


class ErrorsTest(unittest.TestCase):
    def test_all_stand_directly_below_the_first(self):
        self.assertEqual(errors.DueError.__bases__, (ValueError,))
        for name in PLAIN + ("NoTree", "Refused"):
            with self.subTest(name):
                self.assertEqual(getattr(errors, name).__bases__, (errors.DueError,))

    def test_a_message_may_be_left_out(self):
        for name in PLAIN + ("DueError",):
            with self.subTest(name):
                self.assertEqual(str(getattr(errors, name)()), "")
                self.assertEqual(str(getattr(errors, name)("why")), "why")

    def test_attributes(self):
        for at in (-1, 0, 7):
            self.assertEqual(errors.NoTree(at).at, at)
            self.assertEqual(errors.NoTree(at=at).at, at)
        for kind in ("name", "owner", "state", "number"):
            self.assertEqual(errors.Refused(kind).kind, kind)
            self.assertEqual(errors.Refused(kind=kind).kind, kind)
        self.assertEqual(copy.copy(errors.NoTree(3)).at, 3)

    def test_the_others_are_told_something(self):
        for name in ("NoTree", "Refused"):
            with self.assertRaises(TypeError):
                getattr(errors, name)()


if __name__ == "__main__":
    unittest.main()
