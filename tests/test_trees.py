"""Promises [2], [3] and [4]: what is a tree, and what a tree tells."""

import unittest
from fractions import Fraction

from branchdues.errors import NoDue, NoName, NoTree, NoWord
from branchdues.trees import Tree
from helper import NO_AMOUNTS, odd_things, row

AMOUNT_WORDS = ("min", "low", "burst")
ENDLESS_WORDS = ("max", "quota", "tops")
LEFT_OUT = {
    "min": (0, 1), "low": (0, 1), "max": "endless", "quota": "endless", "burst": (0, 1), "tops": "endless",
    "sets": None, "alone": 0,
}
GOOD_AMOUNTS = [(0, 1), (1, 1), (7, 3), (3, 7), (10 ** 300 - 1, 10 ** 300), (10 ** 300, 1), (1, 10 ** 300)]
GOOD_SETS = [None, (), (0,), (63,), (0, 63), (3, 4, 5), tuple(range(64))]
NO_SETS = [
    (-1,), (64,), (1, 1), (2, 1), (0, 1, 1), (True,), (0, True), (1.0,), ("1",), (None,), ([],), ({},), ((1,),),
    [0, 1], [], {0}, range(3), 0, 3, "", "endless", False, b"\x00\x01", {}, frozenset(),
]
NO_NAMES = ["", "A", "aB", "a1", "a b", "a_", "abcdefghijk", "\u00e4", "a\n", "\u0430", " a", "a\x00"]


def good_values(word):
    if word in AMOUNT_WORDS:
        return GOOD_AMOUNTS
    if word in ENDLESS_WORDS:
        return GOOD_AMOUNTS + ["endless"]
    return GOOD_SETS if word == "sets" else [0, 1]


def bad_values(word):
    if word == "sets":
        return NO_SETS + [thing for thing in odd_things() if thing is not None and thing != () and thing != (0,)]
    if word == "alone":
        return [2, -1, True, False, None, 1.0, "1", "", "endless", (0, 1), [0], {}, {1}, b"\x01"]
    things = [thing for thing in NO_AMOUNTS + odd_things() if not isinstance(thing, tuple) or len(thing) != 2]
    things += [thing for thing in NO_AMOUNTS if isinstance(thing, tuple)]
    if word in ENDLESS_WORDS:
        things = [thing for thing in things if not isinstance(thing, str) or thing != "endless"]
        things += ["Endless", "endles", b"endless", ["endless"], ("endless",)]
    return things


class RowsTest(unittest.TestCase):
    def wrong(self, at, *told, **named):
        with self.assertRaises(NoTree) as caught:
            Tree(*told, **named)
        self.assertIs(type(caught.exception), NoTree)
        self.assertEqual(caught.exception.at, at)
        self.assertIs(type(caught.exception.at), int)

    def wrong_row(self, thing):
        """Alone, behind a good row, ahead of a good row and of another wrong one."""
        self.wrong(0, [thing])
        self.wrong(1, [row("y"), thing])
        self.wrong(1, [row("y"), thing, row("z")])
        self.wrong(1, [row("y"), thing, None], None)
        self.wrong(2, [row("y"), row("z"), thing, thing])

    def test_no_list(self):
        for thing in odd_things():
            if not isinstance(thing, list):
                with self.subTest(repr(thing)):
                    self.wrong(-1, thing)
                    self.wrong(-1, thing, None)
                    self.wrong(-1, rows=thing, handing=True)

    def test_no_rows(self):
        self.assertEqual(Tree([]).names(), [])
        self.assertEqual(Tree([], True).children(""), [])

    def test_a_row_that_is_no_tuple_of_three(self):
        for thing in odd_things() + [["p", "", ()], ("p", ""), ("p", "", (), ()), ("p",), {"p": ()}, "p,,"]:
            with self.subTest(repr(thing)):
                self.wrong_row(thing)

    def test_a_name_that_is_none(self):
        for thing in NO_NAMES + [thing for thing in odd_things() if not isinstance(thing, str)]:
            with self.subTest(repr(thing)):
                self.wrong_row((thing, "", ()))

    def test_names_of_all_lengths(self):
        names = ["a", "z", "az", "abcdefghij", "zzzzzzzzzz"]
        self.assertEqual(Tree([row(name) for name in names]).names(), names)

    def test_a_name_that_is_there(self):
        self.wrong(1, [row("p"), row("p")])
        self.wrong(2, [row("p"), row("a", "p"), row("p", "a")])
        self.wrong(2, [row("p"), row("a", "p"), row("a")])

    def test_a_group_above_that_is_not_ahead(self):
        for thing in ["a", "b", "P", "endless"] + [thing for thing in odd_things() if thing not in ("", "p")]:
            with self.subTest(repr(thing)):
                self.wrong(1, [row("p"), ("a", thing, ())])
        self.wrong(0, [("a", "a", ())])
        self.wrong(0, [row("a", "p"), row("p")])
        self.wrong(1, [row("q"), row("a", "p"), row("p")])

    def test_dues_that_are_no_tuple_of_pairs(self):
        pair = ("min", (1, 1))
        for thing in odd_things() + [
                [pair], {"min": (1, 1)}, pair, (["min", (1, 1)],), (("min",),), (("min", (1, 1), 0),), (None,),
                ("min",), (pair, None), (pair, []), ((),), "", "min", (pair, ["low", (1, 1)]),
                ({"min": 1, "low": 2},), ("ab",)]:
            if thing != ():
                with self.subTest(repr(thing)):
                    self.wrong_row(("p", "", thing))

    def test_a_word_that_is_none(self):
        for thing in odd_things() + ["", "Min", "mi", "mins", "high", "number", "handing", "name", b"min", ("min",)]:
            with self.subTest(repr(thing)):
                self.wrong_row(("p", "", ((thing, (1, 1)),)))
                self.wrong_row(("p", "", ((thing, 0),)))
                self.wrong_row(("p", "", (("min", (1, 1)), (thing, None))))

    def test_a_word_that_is_there_twice(self):
        for word in LEFT_OUT:
            good = good_values(word)
            self.wrong_row(("p", "", ((word, good[0]), (word, good[0]))))
            self.wrong_row(("p", "", ((word, good[0]), (word, good[1]))))
        self.wrong_row(("p", "", (("min", (1, 1)), ("low", (1, 1)), ("min", (2, 1)))))

    def test_values(self):
        for word in LEFT_OUT:
            for value in good_values(word):
                with self.subTest(word, value=value):
                    tree = Tree([("p", "", ((word, value),))])
                    self.assertEqual(repr(tree.due("p", word)), repr(value))

    def test_a_value_that_its_word_may_not_have(self):
        for word in LEFT_OUT:
            for value in bad_values(word):
                with self.subTest(word, value=repr(value)):
                    self.wrong_row(("p", "", ((word, value),)))

    def test_all_dues_at_once(self):
        dues = tuple([(word, good_values(word)[-1]) for word in reversed(list(LEFT_OUT))])
        tree = Tree([("p", "", dues)])
        self.assertEqual([(word, tree.due("p", word)) for word, value in dues], list(dues))

    def test_a_row_below_one_whose_tops_are_not_endless(self):
        self.wrong(1, [row("p", tops=5), row("a", "p")])
        self.wrong(2, [row("p", tops=0), row("b"), row("a", "p"), None])
        self.wrong(2, [row("p"), row("b", "p", tops=Fraction(1, 2)), row("c", "b")])
        Tree([row("p", tops="endless"), row("a", "p", tops=5), row("b", "p", tops=0)])
        Tree([row("p", max=1, quota=2, burst=3), row("a", "p")])

    def test_handing_that_is_no_bool(self):
        for thing in odd_things():
            if thing is not True and thing is not False:
                with self.subTest(repr(thing)):
                    self.wrong(0, [], thing)
                    self.wrong(2, [row("p"), row("a", "p")], thing)
                    self.wrong(1, rows=[row("p")], handing=thing)

    def test_rows_come_ahead_of_handing(self):
        self.wrong(0, [None], None)
        self.wrong(1, [row("p"), None], 1)
        self.wrong(-1, (), 1)

    def test_more_than_the_bounds_is_no_error(self):
        names = ["".join(pair) for pair in zip("abcdefghijklmnopqrstuvwxyz" * 3, "a" * 26 + "b" * 26 + "c" * 26)]
        tree = Tree([row(name, above) for name, above in zip(names, [""] + names)])
        self.assertEqual(len(tree.path(names[-1])), 78)


class TellsTest(unittest.TestCase):
    def setUp(self):
        self.rows = [
            row("p", min=10), row("a", "p", min=3, low=Fraction(1, 2)), row("q"), row("b", "p", tops=2, alone=1),
            row("c", "q", sets=(1, 2)), row("d", "a", max=7, quota=4, burst=1),
        ]
        self.tree = Tree(self.rows, True)

    def no_name(self, ask, *more, root=False):
        for thing in odd_things() + ["x", "pa", "P"] + ([] if root else [""]):
            if not isinstance(thing, str) or thing not in ("p", "" if root else "p"):
                with self.subTest(repr(thing)):
                    with self.assertRaises(NoName):
                        ask(thing, *more)

    def test_names(self):
        self.assertEqual(self.tree.names(), ["p", "a", "q", "b", "c", "d"])

    def test_above(self):
        self.assertEqual([self.tree.above(name) for name in "paqbcd"], ["", "p", "", "p", "q", "a"])
        self.no_name(self.tree.above)

    def test_children(self):
        self.assertEqual(self.tree.children(""), ["p", "q"])
        found = [self.tree.children(name) for name in "paqbcd"]
        self.assertEqual(found, [["a", "b"], ["d"], ["c"], [], [], []])
        self.no_name(self.tree.children, root=True)

    def test_leaves(self):
        self.assertEqual(self.tree.leaves(), ["b", "c", "d"])
        self.assertEqual(Tree([row("z"), row("y"), row("x", "z")]).leaves(), ["y", "x"])
        self.assertEqual(Tree([]).leaves(), [])

    def test_path(self):
        found = [self.tree.path(name) for name in "paqbcd"]
        self.assertEqual(found, [["p"], ["a", "p"], ["q"], ["b", "p"], ["c", "q"], ["d", "a", "p"]])
        self.no_name(self.tree.path)

    def test_due(self):
        told = {
            ("p", "min"): (10, 1), ("a", "min"): (3, 1), ("a", "low"): (1, 2), ("b", "tops"): (2, 1),
            ("b", "alone"): 1, ("c", "sets"): (1, 2), ("d", "max"): (7, 1), ("d", "quota"): (4, 1),
            ("d", "burst"): (1, 1),
        }
        for name in self.tree.names():
            for word in LEFT_OUT:
                with self.subTest(name, word=word):
                    wanted = told.get((name, word), LEFT_OUT[word])
                    self.assertEqual(repr(self.tree.due(name, word)), repr(wanted))

    def test_due_that_is_not_there(self):
        self.no_name(self.tree.due, "min")
        self.no_name(self.tree.due, "none")
        for thing in odd_things() + ["", "high", "number", "Min", "handing", "endless"]:
            with self.subTest(repr(thing)):
                with self.assertRaises(NoWord):
                    self.tree.due("p", thing)

    def test_handing(self):
        self.assertIs(self.tree.handing(), True)
        self.assertIs(Tree(self.rows, False).handing(), False)
        self.assertIs(Tree(self.rows).handing(), False)

    def test_told_lists_are_the_callers(self):
        asks = [self.tree.names, self.tree.leaves]
        asks += [lambda: self.tree.children(""), lambda: self.tree.children("p"), lambda: self.tree.path("d")]
        for ask in asks:
            before = ask()
            self.assertIs(type(before), list)
            told = ask()
            told.reverse()
            told.append("x")
            self.assertEqual(ask(), before)
        self.assertEqual(self.tree, Tree(self.rows, True))

    def test_rows_may_be_changed_later(self):
        before = list(self.rows)
        self.rows.reverse()
        self.rows.append(None)
        self.assertEqual(self.tree, Tree(before, True))

    def test_rows_are_not_changed(self):
        before = repr(self.rows)
        Tree(self.rows, True)
        self.assertEqual(repr(self.rows), before)

    def test_arguments_by_name(self):
        self.assertEqual(Tree(rows=self.rows, handing=True), self.tree)
        self.assertEqual(self.tree.above(name="a"), "p")
        self.assertEqual(self.tree.children(name="p"), ["a", "b"])
        self.assertEqual(self.tree.path(name="a"), ["a", "p"])
        self.assertEqual(self.tree.due(name="a", word="min"), (3, 1))
        found = self.tree.with_due(name="a", word="min", value=(4, 1))
        self.assertEqual(found, self.tree.with_due("a", "min", (4, 1)))


class EqualTest(unittest.TestCase):
    def setUp(self):
        self.rows = [row("p", min=3), row("a", "p"), row("b", "p")]
        self.tree = Tree(self.rows)

    def test_equal(self):
        self.assertTrue(self.tree == Tree(self.rows))
        self.assertFalse(self.tree != Tree(self.rows))
        self.assertTrue(Tree(self.rows, True) == Tree(self.rows, True))
        self.assertTrue(Tree([]) == Tree([]))

    def test_dues_left_out_or_told_as_they_are(self):
        dues = tuple(LEFT_OUT.items())
        self.assertTrue(Tree([("p", "", ())]) == Tree([("p", "", dues)]))
        self.assertTrue(Tree([("p", "", dues[::-1])]) == Tree([("p", "", dues[2:5])]))

    def test_unequal(self):
        others = [
            Tree(self.rows, True), Tree([]), Tree(self.rows[:2]), Tree(self.rows + [row("c")]),
            Tree([row("p", min=3), row("b", "p"), row("a", "p")]),
            Tree([row("p", min=3), row("a", "p"), row("b", "a")]),
            Tree([row("p", min=3), row("a", "p"), row("b")]), Tree([row("q", min=3), row("a", "q"), row("b", "q")]),
        ]
        for word in LEFT_OUT:
            other = good_values(word)[1]
            others.append(self.tree.with_due("b", word, other))
        for other in others:
            self.assertFalse(self.tree == other)
            self.assertTrue(self.tree != other)

    def test_equal_to_nothing_else(self):
        for thing in odd_things() + [self.rows, tuple(self.rows), self.tree.names()]:
            if not isinstance(thing, Tree):
                with self.subTest(repr(thing)):
                    self.assertFalse(self.tree == thing)
                    self.assertTrue(self.tree != thing)
                    self.assertFalse(thing == self.tree)


class WithDueTest(unittest.TestCase):
    def setUp(self):
        self.rows = [row("p", min=10), row("a", "p", min=3, tops=5), row("b", "p")]
        self.tree = Tree(self.rows, True)

    def test_all_words_and_values(self):
        for word in LEFT_OUT:
            for value in good_values(word):
                with self.subTest(word, value=value):
                    found = self.tree.with_due("b", word, value)
                    self.assertEqual(repr(found.due("b", word)), repr(value))
                    self.assertEqual(found, Tree(self.rows[:2] + [("b", "p", ((word, value),))], True))

    def test_the_tree_that_was_asked_stays(self):
        found = self.tree.with_due("a", "min", (4, 1)).with_due("b", "low", (1, 2))
        self.assertEqual(self.tree, Tree(self.rows, True))
        self.assertEqual(self.tree.due("a", "min"), (3, 1))
        rows = [row("p", min=10), row("a", "p", min=4, tops=5), row("b", "p", low=Fraction(1, 2))]
        self.assertEqual(found, Tree(rows, True))
        self.assertEqual(found.names(), ["p", "a", "b"])
        self.assertEqual((found.children("p"), found.path("b")), (["a", "b"], ["b", "p"]))

    def test_handing_stays(self):
        self.assertIs(self.tree.with_due("a", "min", (4, 1)).handing(), True)
        self.assertIs(Tree(self.rows).with_due("a", "min", (4, 1)).handing(), False)

    def test_wrong_values(self):
        for word in LEFT_OUT:
            for value in bad_values(word):
                with self.subTest(word, value=repr(value)):
                    with self.assertRaises(NoDue):
                        self.tree.with_due("b", word, value)

    def test_tops_of_a_group_with_children(self):
        for value in GOOD_AMOUNTS:
            with self.assertRaises(NoDue):
                self.tree.with_due("p", "tops", value)
        self.assertEqual(self.tree.with_due("p", "tops", "endless"), self.tree)
        self.assertEqual(self.tree.with_due("a", "tops", (6, 1)).due("a", "tops"), (6, 1))

    def test_order_of_errors(self):
        for thing in odd_things() + ["x"]:
            if not isinstance(thing, str) or thing != "p":
                with self.assertRaises(NoName):
                    self.tree.with_due(thing, "none", None)
        for thing in odd_things() + ["high", "number"]:
            with self.assertRaises(NoWord):
                self.tree.with_due("p", thing, None)
            with self.assertRaises(NoWord):
                self.tree.with_due("p", thing, (1, 1))


if __name__ == "__main__":
    unittest.main()
