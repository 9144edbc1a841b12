"""Promise [32]: what a house tells, copies, equality, and houses to which rows are told."""

import unittest

from branchdues.errors import NoName, NoRow, Refused
from branchdues.houses import House, replayed
from branchdues.trees import Tree
from helper import odd_things

ROWS = [
    ("make", "", "p", ""), ("make", "", "b", "p"), ("make", "", "a", "p"), ("make", "", "d", ""),
    ("own", "", "p", "o"), ("due", "o", "a", "max", 9), ("due", "o", "a", "min", 2), ("due", "", "p", "high", 12),
    ("due", "", "p", "number", 5), ("task", "o", "u", "a"), ("task", "", "t", "a"), ("task", "", "c", "b"),
    ("charge", "t", 3), ("charge", "u", 4), ("charge", "c", 1), ("move", "", "t", "b"), ("charge", "t", 2),
    ("freeze", "o", "b"), ("freeze", "", "d"), ("thaw", "", "d"),
]
# A task ends for q, and a charge is not had.
ENDING = ROWS + [
    ("make", "", "q", "d"), ("make", "", "e", "q"), ("due", "", "e", "min", 9), ("due", "", "q", "max", 5),
    ("task", "", "x", "e"), ("task", "", "y", "e"), ("charge", "y", 4), ("charge", "x", 2), ("charge", "x", 9),
]
WORDS = ("min", "low", "max", "high", "number")


class TellsTest(unittest.TestCase):
    def setUp(self):
        self.house = replayed(list(ENDING))

    def no_name(self, ask, good, *more):
        """What is not a name of a group, or of a task, that is there."""
        for thing in odd_things() + ["x", "z", "y", "abcdefghijk", "A"]:
            if not isinstance(thing, str) or thing not in good:
                with self.subTest(ask.__name__, thing=repr(thing)):
                    with self.assertRaises(NoName):
                        ask(thing, *more)

    def test_names_that_are_not_there(self):
        house = self.house
        groups = ["p", "a", "b", "d", "q", "e"]
        tasks = ["t", "u", "c"]
        for ask in (house.use, house.tasks, house.count, house.is_marked, house.owner, house.events):
            self.no_name(ask, groups)
            for name in groups:
                ask(name)
        for ask in (house.pages, house.group, house.is_frozen):
            self.no_name(ask, tasks)
            for name in tasks:
                ask(name)
        self.no_name(house.children, groups + [""])
        self.no_name(house.due, groups, "min")
        self.no_name(house.due, groups, None)
        for thing in odd_things() + ["", "quota", "burst", "tops", "sets", "alone", "Min", "endless", ("min",)]:
            with self.assertRaises(NoName):
                house.due("a", thing)

    def test_dropped_and_ended_names_are_not_there(self):
        house = replayed([("make", "", "a", ""), ("make", "", "b", ""), ("task", "", "t", "b"), ("drop", "", "a"),
                          ("end", "t")])
        for ask, name in ((house.use, "a"), (house.children, "a"), (house.events, "a"), (house.pages, "t")):
            with self.assertRaises(NoName):
                ask(name)

    def test_use(self):
        self.assertEqual([self.house.use(name) for name in "pabdqe"], [10, 7, 3, 0, 0, 0])
        self.assertEqual(replayed(ROWS).use(group="p"), 10)

    def test_pages(self):
        self.assertEqual([self.house.pages(task) for task in "tuc"], [{"a": 3, "b": 2}, {"a": 4}, {"b": 1}])
        self.house.do(("thaw", "", "b"))
        self.house.do(("free", "t", 2))
        self.assertEqual(self.house.pages(task="t"), {"a": 3})

    def test_tasks_group_and_count(self):
        self.assertEqual([self.house.tasks(name) for name in "pabde"], [[], ["u"], ["c", "t"], [], []])
        self.assertEqual([self.house.count(name) for name in "pabde"], [3, 1, 2, 0, 0])
        self.assertEqual([self.house.group(task) for task in "tuc"], ["b", "a", "b"])
        self.assertEqual((self.house.tasks(group="a"), self.house.count(group="a"), self.house.group(task="u")),
                         (["u"], 1, "a"))

    def test_marks(self):
        self.assertEqual([self.house.is_marked(name) for name in "pabd"], [False, False, True, False])
        self.assertEqual([self.house.is_frozen(task) for task in "tuc"], [True, False, True])
        self.house.do(("freeze", "", "p"))
        self.assertEqual([self.house.is_marked(group=name) for name in "pabd"], [True, False, True, False])
        self.assertEqual([self.house.is_frozen(task=task) for task in "tuc"], [True, True, True])
        self.assertIs(self.house.is_frozen("u"), True)
        self.assertIs(self.house.is_marked("a"), False)

    def test_due_and_owner(self):
        self.assertEqual([self.house.due("a", word) for word in WORDS], [2, 0, 9, "endless", "endless"])
        self.assertEqual([self.house.due("p", word) for word in WORDS], [0, 0, "endless", 12, 5])
        self.assertEqual([self.house.owner(name) for name in "pad"], ["o", None, None])
        self.assertEqual((self.house.due(group="a", word="max"), self.house.owner(group="p")), (9, "o"))

    def test_children(self):
        self.assertEqual([self.house.children(name) for name in ("", "p", "a", "d", "q")],
                         [["p", "d"], ["b", "a"], [], ["q"], ["e"]])
        self.assertEqual(self.house.children(group="p"), ["b", "a"])
        self.assertEqual(House().children(""), [])

    def test_events_and_ended(self):
        # First x is to have 2 pages beside 4 of y, which ends; then 9 beside the 2, for which x ends, too.
        self.assertEqual((self.house.ended(), self.house.events("q"), self.house.events("e")),
                         (["y", "x"], (2, 0, 2, 0), (0, 0, 0, 0)))
        self.assertEqual(self.house.events(group="p"), (0, 0, 0, 0))
        self.assertEqual(House().ended(), [])

    def test_rows(self):
        self.assertEqual(self.house.rows(), ENDING)
        for row in [("end", "z"), ("fork", "t", "z")]:
            with self.assertRaises(Refused):
                self.house.do(row)
        self.assertEqual(self.house.rows(), ENDING)
        self.assertEqual(House().rows(), [])

    def test_kinds_of_what_is_told(self):
        house = self.house
        for thing, kind in (
                (house.use("p"), int), (house.pages("t"), dict), (house.tasks("a"), list), (house.group("t"), str),
                (house.count("a"), int), (house.is_frozen("t"), bool), (house.is_marked("a"), bool),
                (house.children("p"), list), (house.events("p"), tuple), (house.ended(), list), (house.rows(), list),
                (house.copy(), House), (house.do(("charge", "u", 0)), str)):
            self.assertIs(type(thing), kind)

    def test_told_lists_and_dicts_are_the_callers(self):
        house = self.house
        before = house.copy()
        asks = [lambda: house.pages("t"), lambda: house.tasks("b"), lambda: house.children("p"), house.ended,
                house.rows, lambda: house.children("")]
        for ask in asks:
            wanted = ask()
            ask().clear()
            self.assertEqual(ask(), wanted)
            self.assertTrue(wanted)
        self.assertEqual(house, before)
        self.assertEqual(house.rows(), before.rows())

    def test_the_same_again(self):
        other = replayed(list(ENDING))
        for name in "pabdqe":
            self.assertEqual([self.house.use(name), self.house.tasks(name), self.house.events(name)],
                             [other.use(name), other.tasks(name), other.events(name)])
        self.assertEqual(repr(self.house.pages("t")), repr(other.pages("t")))


class CopyTest(unittest.TestCase):
    def test_a_copy(self):
        house = replayed(list(ENDING))
        other = house.copy()
        self.assertEqual(other, house)
        self.assertEqual(other.rows(), house.rows())

    def test_copies_go_on_apart(self):
        more = [
            ("make", "", "f", "d"), ("due", "", "a", "max", 8), ("own", "", "a", "w"), ("freeze", "", "a"),
            ("thaw", "", "b"), ("charge", "t", 1), ("end", "c"), ("task", "", "s", "b"), ("move", "", "u", "b"),
            ("reclaim", "", "p", 2), ("drop", "", "e"), ("due", "", "b", "max", 0), ("charge", "t", 7),
        ]
        house = replayed(list(ENDING))
        for row in more:
            other, fresh = house.copy(), house.copy()
            other.do(row)
            self.assertNotEqual(other, house, row)
            self.assertEqual(house, fresh)
            self.assertEqual((other.rows(), house.rows()), (fresh.rows() + [row], fresh.rows()))
            house.do(row)
            self.assertEqual(house, other)


class EqualTest(unittest.TestCase):
    def same(self, one, other):
        one, other = replayed(list(one)), replayed(list(other))
        self.assertTrue(one == other)
        self.assertFalse(one != other)

    def differ(self, one, other):
        one, other = replayed(list(one)), replayed(list(other))
        self.assertFalse(one == other)
        self.assertTrue(one != other)

    def test_equal(self):
        self.same(ROWS, ROWS)
        self.same(ENDING, ENDING)
        self.assertTrue(House() == House())

    def test_rows_do_not_count(self):
        self.same(ROWS, ROWS + [("freeze", "", "d"), ("thaw", "", "d")])
        self.same(ROWS, ROWS + [("task", "", "s", "a"), ("end", "s")])
        self.same(ROWS, ROWS + [("make", "", "z", "p"), ("drop", "", "z"), ("charge", "u", 0), ("reclaim", "", "p", 0)])
        self.same([], [("make", "", "z", ""), ("drop", "", "z")])
        self.same(ROWS, ROWS[:4] + [("task", "", "u", "a"), ("end", "u")] + ROWS[4:])
        self.same(ROWS, ROWS + [("thaw", "", "b"), ("charge", "t", 2), ("free", "t", 2), ("freeze", "", "b")])

    def test_the_order_of_tasks_does_not_count(self):
        begin = [("make", "", "a", "")]
        tasks = [("task", "", "t", "a"), ("task", "", "s", "a")]
        self.same(begin + tasks, begin + tasks[::-1])
        begin = [("make", "", "a", ""), ("make", "", "b", "")] + tasks[:1]
        ways = [[("charge", "t", 1), ("move", "", "t", "b"), ("charge", "t", 1)],
                [("move", "", "t", "b"), ("charge", "t", 1), ("move", "", "t", "a"), ("charge", "t", 1),
                 ("move", "", "t", "b")]]
        self.same(begin + ways[0], begin + ways[1])

    def test_the_order_of_making_counts(self):
        rows = [("make", "", "p", ""), ("make", "", "q", ""), ("make", "", "a", "p"), ("make", "", "b", "p")]
        self.differ(rows, rows[:2] + rows[3:1:-1])
        self.differ(rows, rows[1::-1] + rows[2:])
        # Also of groups that do not stand below the same one.
        self.differ(rows[:3] + [("make", "", "c", "q")], rows[:2] + [("make", "", "c", "q")] + rows[2:3])
        self.differ(rows, rows + [("drop", "", "q"), ("make", "", "q", "")])
        self.same(rows, rows + [("drop", "", "b"), ("make", "", "b", "p")])
        # But not of those that are there no more.
        self.same(rows, [("make", "", "b", "")] + rows[:2] + [("make", "", "a", "p"), ("drop", "", "b")] + rows[3:])

    def test_all_that_counts(self):
        for more in (
                ("make", "", "z", "d"), ("due", "", "a", "low", 1), ("due", "", "d", "max", 1),
                ("due", "", "d", "high", 0), ("due", "", "b", "min", 1), ("due", "", "a", "number", 9),
                ("own", "", "p", None), ("own", "", "a", "o"), ("freeze", "", "a"), ("thaw", "", "b"), ("end", "c"),
                ("task", "", "s", "d"), ("move", "", "u", "b"), ("charge", "u", 1), ("free", "u", 1), ("drop", "", "d"),
                ("reclaim", "", "a", 1)):
            self.differ(ROWS, ROWS + [more])

    def test_events_and_ended_count(self):
        begin = [("make", "", "a", ""), ("task", "", "t", "a"), ("due", "", "a", "max", 3)]
        self.differ(begin, begin + [("charge", "t", 4)])
        self.differ(begin, begin + [("charge", "t", 1), ("reclaim", "", "a", 1)])
        begin = ENDING[:-3]
        self.differ(begin + [("charge", "y", 4), ("charge", "x", 2), ("end", "x")],
                    begin + [("charge", "y", 4), ("end", "y"), ("end", "x")])

    def test_equal_to_nothing_else(self):
        house = replayed(list(ROWS))
        for thing in odd_things() + [ROWS, Tree([])]:
            if not isinstance(thing, House):
                self.assertFalse(house == thing)
                self.assertTrue(house != thing)
                self.assertFalse(thing == house)
        self.assertFalse(House() == Tree([]))


class ReplayedTest(unittest.TestCase):
    def test_rows(self):
        rows = list(ENDING)
        house = replayed(rows)
        other = House()
        for row in ENDING:
            other.do(row=row)
        self.assertEqual(house, other)
        self.assertEqual(house.rows(), ENDING)
        self.assertEqual(rows, ENDING)
        rows.clear()
        self.assertEqual(house.rows(), ENDING)
        self.assertEqual(replayed(rows=[]), House())
        self.assertEqual(replayed(house.rows()), house)

    def test_no_list(self):
        for thing in odd_things() + [tuple(ROWS), iter(ROWS), {row: 1 for row in ROWS}]:
            if not isinstance(thing, list):
                with self.subTest(repr(thing)):
                    with self.assertRaises(NoRow):
                        replayed(thing)

    def test_rows_that_are_none(self):
        for thing in odd_things() + [("end",), ["end", "t"]]:
            with self.assertRaises(NoRow):
                replayed([thing])
            with self.assertRaises(NoRow):
                replayed(ROWS + [thing, ("end", "z")])

    def test_rows_that_are_refused(self):
        for kind, row in (("name", ("end", "z")), ("owner", ("drop", "w", "d")), ("state", ("free", "u", 9)),
                          ("number", ("fork", "u", "z"))):
            more = [("due", "", "a", "number", 0), row, None]
            with self.assertRaises(Refused) as caught:
                replayed(ROWS + more)
            self.assertEqual(caught.exception.kind, kind)


if __name__ == "__main__":
    unittest.main()
