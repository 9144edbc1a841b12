"""Promises [26] to [31]: what the rows of a house do, and when they are refused."""

import unittest

from branchdues.errors import NoRow, Refused
from branchdues.houses import House, is_row, replayed
from helper import odd_things

# p stands above q and c, q above a and b; p is owned by o, q by w.
GROUPS = [
    ("make", "", "p", ""), ("make", "", "q", "p"), ("make", "", "a", "q"), ("make", "", "b", "q"),
    ("make", "", "c", "p"), ("make", "", "d", ""), ("own", "", "p", "o"), ("own", "", "q", "w"),
]
TASKS = [("task", "", "t", "a"), ("task", "", "u", "a"), ("task", "", "v", "b"), ("task", "", "x", "c")]


def house_of(*rows):
    return replayed(list(rows))


def due(name, word, value):
    return ("due", "", name, word, value)


class DeedsTest(unittest.TestCase):
    def done(self, house, *rows):
        for row in rows:
            self.assertEqual(house.do(row), "done", row)

    def refused(self, house, kind, *rows):
        """Without any change."""
        for row in rows:
            before = house.copy()
            with self.assertRaises(Refused) as caught:
                house.do(row)
            self.assertEqual(caught.exception.kind, kind, row)
            self.assertEqual(house, before)
            self.assertEqual(house.rows(), before.rows())

    def test_make(self):
        house = house_of(*GROUPS)
        self.assertEqual((house.children(""), house.children("p"), house.children("q")),
                         (["p", "d"], ["q", "c"], ["a", "b"]))
        self.assertEqual([house.due("a", word) for word in ("min", "low", "max", "high", "number")],
                         [0, 0, "endless", "endless", "endless"])
        self.assertEqual((house.owner("a"), house.is_marked("a"), house.use("a"), house.events("a")),
                         (None, False, 0, (0, 0, 0, 0)))
        self.refused(house, "name", ("make", "", "a", ""), ("make", "", "p", "x"), ("make", "", "e", "x"),
                     ("make", "o", "a", "d"), ("make", "o", "e", "x"))
        self.refused(house, "owner", ("make", "o", "e", ""), ("make", "w", "e", "p"), ("make", "o", "e", "d"),
                     ("make", "x", "e", "a"))
        self.done(house, ("make", "o", "e", "p"), ("make", "o", "f", "a"), ("make", "w", "g", "q"),
                  ("make", "w", "h", "f"), ("make", "", "i", "h"))
        self.assertEqual(house.children("q"), ["a", "b", "g"])

    def test_make_below_tasks_and_pages(self):
        house = house_of(*GROUPS, ("task", "", "t", "a"))
        self.refused(house, "state", ("make", "", "e", "a"), ("make", "w", "e", "a"))
        self.refused(house, "owner", ("make", "x", "e", "a"))
        self.done(house, ("charge", "t", 2), ("move", "", "t", "b"))
        self.refused(house, "state", ("make", "", "e", "a"), ("make", "", "e", "b"))
        self.done(house, ("end", "t"), ("make", "", "e", "a"), ("make", "", "f", "b"))

    def test_drop(self):
        house = house_of(*GROUPS, ("task", "", "t", "a"))
        self.refused(house, "name", ("drop", "", "x"), ("drop", "w", "x"))
        self.refused(house, "owner", ("drop", "o", "p"), ("drop", "w", "q"), ("drop", "w", "p"), ("drop", "x", "a"),
                     ("drop", "w", "d"))
        self.refused(house, "state", ("drop", "", "a"), ("drop", "", "q"), ("drop", "w", "a"), ("drop", "", "p"))
        self.done(house, ("charge", "t", 1), ("move", "", "t", "b"))
        self.refused(house, "state", ("drop", "", "a"), ("drop", "", "b"))
        self.done(house, ("end", "t"), ("drop", "w", "a"), ("drop", "o", "b"), ("drop", "o", "q"), ("drop", "", "d"))
        self.assertEqual((house.children(""), house.children("p")), (["p"], ["c"]))
        self.refused(house, "name", ("drop", "", "a"))

    def test_a_dropped_name_is_made_again(self):
        house = house_of(("make", "", "a", ""), ("make", "", "b", ""), ("own", "", "a", "o"), ("freeze", "", "a"))
        self.done(house, due("a", "max", 3), due("a", "min", 2), due("a", "number", 0), ("thaw", "o", "a"))
        self.done(house, due("a", "number", 1), ("task", "", "t", "a"), ("freeze", "", "a"), ("thaw", "", "a"))
        self.assertEqual(house.do(("charge", "t", 4)), "max")
        self.assertEqual(house.events("a"), (1, 0, 0, 0))
        self.done(house, ("end", "t"), ("freeze", "", "a"), ("drop", "", "a"), ("make", "", "a", "b"))
        self.assertEqual((house.children(""), house.children("b")), (["b"], ["a"]))
        self.assertEqual([house.due("a", word) for word in ("min", "low", "max", "high", "number")],
                         [0, 0, "endless", "endless", "endless"])
        self.assertEqual((house.owner("a"), house.is_marked("a"), house.events("a")), (None, False, (0, 0, 0, 0)))
        self.done(house, ("task", "", "t", "a"), ("fork", "t", "u"))
        self.assertEqual((house.pages("t"), house.tasks("a")), ({}, ["t", "u"]))

    def test_due(self):
        house = house_of(*GROUPS)
        for word, values in (("min", (0, 7, 10 ** 300)), ("low", (0, 7)), ("max", (0, 7, "endless")),
                             ("high", (0, 7, "endless")), ("number", (0, 7, "endless"))):
            for value in values:
                self.done(house, due("a", word, value))
                self.assertEqual(house.due("a", word), value)
        self.refused(house, "name", due("x", "min", 1), ("due", "w", "x", "min", 1))
        self.refused(house, "owner", ("due", "o", "p", "min", 1), ("due", "w", "q", "max", 1),
                     ("due", "x", "a", "max", 1), ("due", "w", "c", "high", 1), ("due", "w", "d", "low", 1))
        self.done(house, ("due", "w", "a", "max", 1), ("due", "o", "a", "max", 2), ("due", "o", "q", "high", 3))
        self.assertEqual((house.due("a", "max"), house.due("q", "high")), (2, 3))

    def test_own(self):
        house = house_of(*GROUPS)
        self.refused(house, "name", ("own", "", "x", None), ("own", "w", "x", "o"))
        self.refused(house, "owner", ("own", "o", "p", "o"), ("own", "o", "p", None), ("own", "w", "q", "w"),
                     ("own", "x", "a", "x"), ("own", "o", "d", "o"))
        self.done(house, ("own", "w", "a", "z"), ("own", "o", "q", None))
        self.assertEqual([house.owner(name) for name in "pqabcd"], ["o", None, "z", None, None, None])
        # q is w's no more, but all in p is o's still.
        self.refused(house, "owner", ("make", "w", "e", "q"), ("own", "z", "a", None), ("drop", "z", "a"))
        self.done(house, ("make", "z", "e", "a"), ("own", "z", "e", "w"), ("drop", "o", "e"), ("own", "", "p", "w"))
        self.refused(house, "owner", ("make", "o", "e", "p"))
        self.done(house, ("make", "w", "e", "p"))

    def test_task(self):
        house = house_of(*GROUPS)
        self.done(house, ("task", "", "t", "d"), ("task", "o", "o", "a"), ("task", "w", "a", "a"),
                  ("task", "o", "s", "c"))
        self.assertEqual((house.tasks("a"), house.group("a"), house.pages("a")), (["a", "o"], "a", {}))
        self.refused(house, "name", ("task", "", "t", "a"), ("task", "", "r", "x"), ("task", "w", "t", "d"),
                     ("task", "w", "t", "x"))
        self.refused(house, "owner", ("task", "w", "r", "c"), ("task", "o", "r", "d"), ("task", "w", "r", "p"))
        self.refused(house, "state", ("task", "", "r", "p"), ("task", "w", "r", "q"), ("task", "o", "r", "q"))

    def test_fork(self):
        house = house_of(*GROUPS, *TASKS, ("move", "", "u", "c"))
        self.done(house, ("charge", "t", 2), ("fork", "t", "s"), ("fork", "u", "p"))
        self.assertEqual((house.group("s"), house.group("p"), house.pages("s")), ("a", "c", {}))
        self.refused(house, "name", ("fork", "r", "z"), ("fork", "t", "u"), ("fork", "t", "t"), ("fork", "r", "t"))
        self.done(house, ("freeze", "", "q"))
        self.refused(house, "state", ("fork", "t", "z"), ("fork", "s", "z"))
        self.refused(house, "name", ("fork", "t", "v"))

    def test_numbers(self):
        house = house_of(*GROUPS, due("p", "number", 3), due("a", "number", 2))
        self.done(house, ("task", "", "t", "a"), ("fork", "t", "u"))
        self.refused(house, "number", ("fork", "u", "v"), ("task", "w", "v", "a"))
        self.done(house, ("task", "", "v", "b"))
        self.refused(house, "number", ("task", "", "x", "c"), ("fork", "v", "x"))
        self.refused(house, "owner", ("task", "x", "x", "c"))
        self.refused(house, "state", ("task", "", "x", "q"))
        self.done(house, ("task", "", "x", "d"), ("move", "", "x", "a"), ("move", "", "x", "c"))
        self.assertEqual((house.count("p"), house.count("a"), house.count("d")), (4, 2, 0))
        self.done(house, ("end", "u"), ("end", "v"), ("fork", "x", "v"))
        self.refused(house, "number", ("fork", "x", "u"))
        self.done(house, due("p", "number", "endless"), ("fork", "x", "u"), due("p", "number", 0))
        self.refused(house, "number", ("fork", "x", "r"))
        self.done(house, ("freeze", "", "c"))
        self.refused(house, "state", ("fork", "x", "r"))

    def test_move(self):
        house = house_of(*GROUPS, *TASKS, ("charge", "t", 3), ("charge", "u", 2))
        self.done(house, ("move", "w", "t", "b"), ("charge", "t", 4), ("move", "o", "t", "c"), ("charge", "t", 1))
        self.assertEqual((house.group("t"), house.pages("t")), ("c", {"a": 3, "b": 4, "c": 1}))
        self.assertEqual([house.use(name) for name in "pqabc"], [10, 9, 5, 4, 1])
        self.refused(house, "name", ("move", "", "r", "a"), ("move", "", "t", "x"), ("move", "w", "r", "d"))
        self.refused(house, "owner", ("move", "w", "t", "a"), ("move", "o", "t", "d"), ("move", "w", "t", "c"),
                     ("move", "w", "t", "p"))
        self.refused(house, "state", ("move", "", "t", "p"), ("move", "o", "t", "q"), ("move", "", "t", "q"))
        self.done(house, ("move", "o", "t", "c"), ("move", "", "t", "d"), ("move", "", "t", "d"), ("move", "w", "v", "b"))
        self.assertEqual(house.pages("t"), {"a": 3, "b": 4, "c": 1})
        self.refused(house, "owner", ("move", "o", "t", "d"), ("move", "o", "t", "c"))

    def test_end(self):
        house = house_of(*GROUPS, *TASKS, ("charge", "t", 3), ("move", "", "t", "c"), ("charge", "t", 4))
        self.refused(house, "name", ("end", "r"), ("end", "a"))
        self.done(house, ("end", "t"))
        self.assertEqual((house.use("p"), house.count("p"), house.ended()), (0, 3, []))
        self.done(house, ("task", "", "t", "a"))
        self.assertEqual((house.pages("t"), house.group("t")), ({}, "a"))

    def test_free(self):
        house = house_of(*GROUPS, *TASKS, ("charge", "t", 5), ("charge", "u", 5))
        self.done(house, ("free", "t", 2), ("free", "t", 0))
        self.assertEqual((house.pages("t"), house.use("p")), ({"a": 3}, 8))
        self.refused(house, "name", ("free", "r", 0))
        self.refused(house, "state", ("free", "t", 4), ("free", "v", 1))
        self.done(house, ("move", "", "t", "b"), ("free", "t", 0))
        self.refused(house, "state", ("free", "t", 1))
        self.done(house, ("move", "", "t", "a"), ("free", "t", 3))
        self.assertEqual(house.pages("t"), {})
        self.done(house, ("freeze", "", "p"))
        self.refused(house, "state", ("free", "u", 1), ("free", "u", 0))

    def test_freeze_and_thaw(self):
        house = house_of(*GROUPS, *TASKS, ("charge", "t", 3))
        self.refused(house, "name", ("freeze", "", "x"), ("thaw", "w", "x"))
        self.refused(house, "owner", ("freeze", "w", "p"), ("thaw", "w", "c"), ("freeze", "o", "d"))
        self.done(house, ("freeze", "w", "q"), ("freeze", "w", "q"), ("freeze", "", "a"))
        self.assertEqual([house.is_frozen(task) for task in "tuvx"], [True, True, True, False])
        self.assertEqual([house.is_marked(name) for name in "pqab"], [False, True, True, False])
        self.refused(house, "state", ("charge", "t", 1), ("charge", "v", 0), ("fork", "v", "z"), ("free", "t", 1))
        self.done(house, ("reclaim", "", "a", 1), ("move", "", "v", "c"), ("charge", "v", 1), ("end", "u"))
        self.assertEqual((house.pages("t"), house.is_frozen("v")), ({"a": 2}, False))
        self.done(house, ("thaw", "o", "q"), ("thaw", "o", "q"))
        self.assertEqual((house.is_frozen("t"), house.is_marked("a")), (True, True))
        self.done(house, ("thaw", "w", "a"), ("charge", "t", 1), ("task", "", "z", "b"), ("freeze", "", "p"),
                  ("task", "", "y", "b"), ("thaw", "", "p"))

    def test_a_reclaim_row(self):
        house = house_of(*GROUPS, *TASKS, ("charge", "t", 3), ("charge", "v", 3), ("charge", "x", 3))
        self.refused(house, "name", ("reclaim", "", "x", 1), ("reclaim", "w", "x", 1))
        self.refused(house, "owner", ("reclaim", "w", "p", 1), ("reclaim", "w", "c", 0), ("reclaim", "x", "a", 1))
        self.done(house, ("reclaim", "w", "q", 2), ("reclaim", "o", "c", 9), ("reclaim", "", "p", 0))
        self.assertEqual([house.use(name) for name in "pabc"], [4, 2, 2, 0])
        self.assertEqual([house.events(name)[3] for name in "pqabc"], [0, 2, 0, 0, 3])

    def test_names_of_groups_and_tasks_are_kept_apart(self):
        house = house_of(("make", "", "a", ""), ("task", "", "a", "a"), ("make", "", "b", ""))
        self.refused(house, "name", ("end", "b"), ("drop", "", "c"), ("move", "", "b", "a"))
        self.done(house, ("charge", "a", 1), ("move", "", "a", "b"), ("own", "", "a", "a"), ("freeze", "a", "a"))

    def test_the_order_of_the_kinds(self):
        house = house_of(*GROUPS, *TASKS, due("a", "number", 2), due("p", "number", 4), ("freeze", "", "q"))
        self.refused(house, "name", ("task", "x", "t", "q"), ("make", "x", "t", "z"), ("fork", "t", "u"))
        self.refused(house, "owner", ("task", "x", "z", "q"), ("drop", "x", "q"), ("move", "x", "t", "q"),
                     ("make", "x", "z", "a"))
        self.refused(house, "state", ("task", "", "z", "q"), ("fork", "t", "z"))
        self.refused(house, "number", ("task", "", "z", "a"), ("task", "", "z", "c"))

    def test_rows_that_are_none(self):
        house = house_of(*GROUPS, *TASKS)
        before = house.copy()
        for thing in odd_things() + NO_ROWS:
            with self.subTest(repr(thing)):
                self.assertIs(is_row(thing), False)
                with self.assertRaises(NoRow):
                    house.do(thing)
        self.assertEqual(house, before)
        self.assertEqual(house.rows(), before.rows())

    def test_rows(self):
        for row in GOOD_ROWS:
            with self.subTest(row):
                self.assertIs(is_row(row), True)
                self.assertIs(is_row(thing=row), True)
                self.assertIs(is_row(list(row)), False)
                self.assertIs(is_row(row + (1,)), False)
                self.assertIs(is_row(row + ("p",)), False)
                self.assertIs(is_row(row[:-1]), False)
                self.assertIs(is_row((row,)), False)

    def test_each_part_of_a_row(self):
        things = [True, 1.0, -1, "", "A", "a1", "abcdefghijk", b"a", [], {}, set(), ("a",), None, 0, "endless", "a b"]
        may = {
            "who": ["", "endless"], "name": ["endless"], "above": ["", "endless"], "owner": [None, "endless"],
            "pages": [0], "bound": [0, "endless"], "word": [],
        }
        for row, parts in FORMS:
            for at, part in enumerate(parts.split()):
                for thing in things:
                    wrong = row[:at + 1] + (thing,) + row[at + 2:]
                    good = any(type(thing) is type(one) and thing == one for one in may[part])
                    with self.subTest(wrong):
                        self.assertIs(is_row(wrong), good)


FORMS = [
    (("make", "o", "a", "p"), "who name above"), (("drop", "o", "a"), "who name"),
    (("due", "o", "a", "min", 1), "who name word pages"), (("due", "o", "a", "low", 1), "who name word pages"),
    (("due", "o", "a", "max", 1), "who name word bound"), (("due", "o", "a", "high", 1), "who name word bound"),
    (("due", "o", "a", "number", 1), "who name word bound"), (("own", "o", "a", "w"), "who name owner"),
    (("task", "o", "t", "a"), "who name name"), (("fork", "t", "u"), "name name"),
    (("move", "o", "t", "a"), "who name name"), (("end", "t"), "name"), (("charge", "t", 1), "name pages"),
    (("free", "t", 1), "name pages"), (("reclaim", "o", "a", 1), "who name pages"), (("freeze", "o", "a"), "who name"),
    (("thaw", "o", "a"), "who name"),
]
GOOD_ROWS = [row for row, parts in FORMS] + [
    ("make", "", "abcdefghij", ""), ("own", "", "a", None), ("charge", "t", 10 ** 300), ("fork", "t", "t"),
    ("due", "", "a", "max", "endless"), ("due", "", "a", "min", 0), ("move", "", "a", "a"), ("end", "endless"),
]
NO_ROWS = [
    (), ("make",), ("Make", "", "a", ""), ("", "a"), ("rows",), ("use", "a"), ("end", "t", "t"), ("end",),
    ("make", "", "", ""), ("make", "", "a", None), ("make", None, "a", ""), ("drop", "", ""), ("own", "", "a", ""),
    ("own", "", "a", "A"), ("due", "", "a", "min", "endless"), ("due", "", "a", "low", "endless"),
    ("due", "", "a", "tops", 1), ("due", "", "a", "quota", 1), ("due", "", "a", "max", True),
    ("due", "", "a", "max", (1, 1)), ("due", "", "a", "max", None), ("due", "", "a", "number", -1),
    ("due", "", "a", "number", 1.0), ("due", "", "a", ["max"], 1), ("due", "", "a", {}, 1), ("due", "", "a", "max"),
    ("charge", "t", True), ("charge", "t", -1), ("charge", "t", "1"), ("charge", "t", (1, 1)), ("charge", "", 1),
    ("charge", "t", "endless"), ("charge", "t", []), (["charge"], "t", 1), ({}, "t", 1), (None, "t"), (1, "t"),
    (b"end", "t"), ["end", "t"], "end", {"end": "t"}, ("end", ["t"]), ("end", {}), ("end", set()), ("end", "abcdefghijk"),
    ("task", "", "t", ""), ("fork", "t", ""), ("move", "", "t", ""), ("freeze", "", ""), ("reclaim", "", "", 1),
    ("reclaim", "", "a", None), (("end", "t"),), ("end", "T"), ("end", "t "), (True, "t"),
]


if __name__ == "__main__":
    unittest.main()
