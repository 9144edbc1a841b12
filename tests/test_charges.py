"""Promises [29] and [30]: charges at limits, reclaims of whole pages, tasks that end, and what is counted."""

import unittest

from branchdues.houses import House, replayed


def due(name, word, value):
    return ("due", "", name, word, value)


def groups(*pairs):
    return [("make", "", name, above) for name, above in pairs]


def tasks(**homes):
    return [("task", "", task, home) for task, home in homes.items()]


class ChargesTest(unittest.TestCase):
    def house(self, *rows):
        return replayed(list(rows))

    def told(self, house, *wanted):
        """The uses of the groups that are given."""
        for name, use in zip(wanted[::2], wanted[1::2]):
            self.assertEqual(house.use(name), use, name)

    def test_a_charge(self):
        house = self.house(*groups(("p", ""), ("a", "p"), ("b", "p")), *tasks(t="a", u="b"))
        self.assertEqual([house.do(("charge", "t", 4)), house.do(("charge", "u", 0)), house.do(("charge", "t", 2))],
                         ["done"] * 3)
        self.assertEqual((house.pages("t"), house.pages("u")), ({"a": 6}, {}))
        self.told(house, "p", 6, "a", 6, "b", 0)
        self.assertEqual(house.events("p"), (0, 0, 0, 0))

    def test_a_charge_that_just_fits(self):
        house = self.house(*groups(("a", "")), *tasks(t="a"), due("a", "max", 5), ("charge", "t", 3))
        self.assertEqual(house.do(("charge", "t", 2)), "done")
        self.assertEqual((house.pages("t"), house.events("a")), ({"a": 5}, (0, 0, 0, 0)))
        self.assertEqual(house.do(("charge", "t", 1)), "done")
        self.assertEqual((house.pages("t"), house.events("a")), ({"a": 5}, (1, 0, 0, 1)))

    def test_pages_are_taken_from_tasks_in_the_order_of_their_names(self):
        house = self.house(*groups(("a", "")), *tasks(t="a", ta="a", s="a", u="a"), due("a", "max", 12))
        for task, pages in (("t", 2), ("ta", 3), ("s", 4), ("u", 3)):
            house.do(("charge", task, pages))
        house.do(("charge", "s", 5))
        self.assertEqual([house.pages(task) for task in ("s", "t", "ta", "u")], [{"a": 5}, {"a": 1}, {"a": 3}, {"a": 3}])
        house.do(("reclaim", "", "a", 7))
        self.assertEqual([house.pages(task) for task in ("s", "t", "ta", "u")], [{}, {}, {"a": 2}, {"a": 3}])
        self.assertEqual(house.events("a"), (1, 0, 0, 12))

    def test_pages_that_were_left_behind_are_taken_too(self):
        house = self.house(*groups(("a", ""), ("b", "")), *tasks(t="a", u="a"), ("charge", "t", 4), ("charge", "u", 1))
        house.do(("move", "", "t", "b"))
        house.do(("charge", "t", 2))
        house.do(due("a", "max", 6))
        self.assertEqual(house.do(("charge", "u", 3)), "done")
        self.assertEqual((house.pages("t"), house.pages("u")), ({"a": 2, "b": 2}, {"a": 4}))
        house.do(("freeze", "", "b"))
        house.do(("reclaim", "", "b", 1))
        self.assertEqual(house.pages("t"), {"a": 2, "b": 1})

    def test_a_charge_that_ends_tasks(self):
        # a and b are protected from reclaims at p, so that only tasks can make room.
        rows = groups(("p", ""), ("a", "p"), ("b", "p")) + [due("a", "min", 99), due("b", "min", 99)]
        house = self.house(*rows, due("p", "max", 12), *tasks(t="a", u="a", v="b", x="b"))
        for task, pages in (("t", 2), ("u", 4), ("v", 4), ("x", 1)):
            house.do(("charge", task, pages))
        # Of u and v, with 4 each, u is the first by name.
        self.assertEqual(house.do(("charge", "x", 3)), "done")
        self.assertEqual((house.ended(), house.pages("x"), house.tasks("a")), (["u"], {"b": 4}, ["t"]))
        self.assertEqual(house.events("p"), (1, 0, 1, 0))
        self.assertEqual(house.do(("charge", "t", 9)), "done")
        self.assertEqual((house.ended(), house.pages("t")), (["u", "v", "x"], {"a": 11}))
        self.assertEqual(house.events("p"), (2, 0, 3, 0))

    def test_pages_below_a_group_are_added_up(self):
        rows = groups(("p", ""), ("a", "p"), ("b", "p"), ("c", "")) + [due("a", "min", 99), due("b", "min", 99)]
        house = self.house(*rows, *tasks(t="a", u="a", v="c"), ("charge", "t", 3), ("charge", "u", 4),
                           ("charge", "v", 9), ("move", "", "t", "b"), ("charge", "t", 2), due("p", "max", 9))
        house.do(("move", "", "v", "b"))
        # t has 5 pages below p, u 4, and v 9, but these are in c.
        self.assertEqual(house.do(("charge", "v", 1)), "done")
        self.assertEqual((house.ended(), house.pages("u"), house.pages("v")), (["t"], {"a": 4}, {"c": 9, "b": 1}))
        self.told(house, "p", 5, "c", 9)

    def test_a_task_that_was_moved_away_ends(self):
        rows = groups(("p", ""), ("a", "p"), ("b", "p"), ("c", "")) + [due("a", "min", 99), due("b", "min", 99)]
        house = self.house(*rows, *tasks(t="a", u="b"), ("charge", "t", 5), ("move", "", "t", "c"), ("charge", "t", 7),
                           ("freeze", "", "c"), due("p", "max", 6))
        self.assertEqual(house.do(("charge", "u", 2)), "done")
        self.assertEqual(house.ended(), ["t"])
        self.told(house, "p", 2, "c", 0)
        self.assertEqual((house.events("p"), house.events("c")), ((1, 0, 1, 0), (0, 0, 0, 0)))

    def test_a_charge_that_ends_the_charging_task(self):
        rows = groups(("p", ""), ("a", "p"), ("b", "p")) + [due("a", "min", 99), due("b", "min", 99)]
        house = self.house(*rows, due("p", "max", 10), *tasks(t="a", u="b"), ("charge", "t", 6), ("charge", "u", 3))
        self.assertEqual(house.do(("charge", "t", 2)), "max")
        self.assertEqual((house.ended(), house.tasks("a"), house.pages("u")), (["t"], [], {"b": 3}))
        self.told(house, "p", 3)
        self.assertEqual((house.events("p"), house.events("a")), ((1, 0, 1, 0), (0, 0, 0, 0)))
        self.assertEqual(house.rows()[-1], ("charge", "t", 2))

    def test_tasks_end_until_it_fits_also_behind_the_charging_one(self):
        rows = groups(("p", ""), ("a", "p"), ("b", "p")) + [due("a", "min", 99), due("b", "min", 99)]
        house = self.house(*rows, due("p", "max", 10), *tasks(t="a", u="b", v="b"), ("charge", "t", 5),
                           ("charge", "u", 3), ("charge", "v", 1))
        self.assertEqual(house.do(("charge", "t", 8)), "max")
        self.assertEqual((house.ended(), house.pages("v")), (["t", "u"], {"b": 1}))

    def test_a_charge_that_cannot_be_had(self):
        house = self.house(*groups(("a", "")), *tasks(t="a", u="a"), due("a", "max", 5), ("charge", "t", 3),
                           ("charge", "u", 1))
        # The excess is 6, and all 4 pages are reclaimed; then there is nobody to end.
        self.assertEqual(house.do(("charge", "u", 7)), "max")
        self.assertEqual((house.pages("t"), house.pages("u"), house.ended()), ({}, {}, []))
        self.assertEqual(house.events("a"), (1, 0, 0, 4))
        self.assertEqual(house.rows()[-1], ("charge", "u", 7))
        self.assertEqual(house.do(("charge", "u", 5)), "done")

    def test_what_was_reclaimed_and_ended_stays_so(self):
        rows = groups(("p", ""), ("a", "p"), ("b", "p")) + [due("a", "min", 99), due("p", "max", 10)]
        house = self.house(*rows, *tasks(t="a", u="b", v="a"), ("charge", "t", 4), ("charge", "u", 3),
                           ("charge", "v", 1))
        # 3 of u are reclaimed, then all end that have pages.
        self.assertEqual(house.do(("charge", "u", 11)), "max")
        self.assertEqual((house.ended(), house.tasks("b"), house.use("p")), (["t", "v"], ["u"], 0))
        self.assertEqual(house.events("p"), (1, 0, 2, 3))

    def test_several_levels(self):
        rows = groups(("p", ""), ("q", "p"), ("a", "q"), ("b", "q"), ("c", "p"))
        dues = [due("a", "max", 4), due("q", "max", 6), due("p", "max", 9)]
        house = self.house(*rows, *dues, *tasks(t="a", u="b", v="c"), ("charge", "t", 3), ("charge", "u", 3),
                           ("charge", "v", 3))
        # a: 1 is reclaimed. q: then 2 and 3 with 3 more are above 6 by 2. p: 6 and 3 with these just fit.
        self.assertEqual(house.do(("charge", "t", 2)), "done")
        self.assertEqual([house.events(name) for name in "aqp"], [(1, 0, 0, 1), (1, 0, 0, 1), (0, 0, 0, 0)])
        self.told(house, "a", 4, "b", 2, "c", 3)
        house.do(due("q", "max", "endless"))
        self.assertEqual(house.do(("charge", "u", 4)), "done")
        self.assertEqual(house.events("p"), (1, 0, 0, 4))
        self.told(house, "p", 9)

    def test_a_higher_group_is_not_asked_if_a_lower_one_cannot(self):
        house = self.house(*groups(("p", ""), ("a", "p")), *tasks(t="a"), due("a", "max", 3), due("p", "max", 2))
        self.assertEqual(house.do(("charge", "t", 4)), "max")
        self.assertEqual((house.events("a"), house.events("p")), ((1, 0, 0, 0), (0, 0, 0, 0)))
        self.assertEqual(house.do(("charge", "t", 3)), "max")
        self.assertEqual((house.events("a"), house.events("p")), ((1, 0, 0, 0), (1, 0, 0, 0)))

    def test_a_max_of_0(self):
        house = self.house(*groups(("p", ""), ("a", "p")), *tasks(t="a"), ("charge", "t", 2), due("p", "max", 0))
        self.assertEqual(house.use("p"), 2)
        # The use is above the max by itself.
        self.assertEqual(house.do(("charge", "t", 0)), "done")
        self.assertEqual((house.use("p"), house.events("p")), (0, (1, 0, 0, 2)))
        self.assertEqual(house.do(("charge", "t", 0)), "done")
        self.assertEqual(house.do(("charge", "t", 1)), "max")
        self.assertEqual(house.events("p"), (2, 0, 0, 2))

    def test_high(self):
        rows = groups(("p", ""), ("a", "p"), ("b", "p"))
        house = self.house(*rows, *tasks(t="a", u="b"), due("a", "high", 4), due("p", "high", 6))
        self.assertEqual(house.do(("charge", "t", 4)), "done")
        self.assertEqual(house.events("a"), (0, 0, 0, 0))
        self.assertEqual(house.do(("charge", "t", 3)), "done")
        self.assertEqual((house.pages("t"), house.events("a"), house.events("p")), ({"a": 4}, (0, 1, 0, 3), (0, 0, 0, 0)))
        self.assertEqual(house.do(("charge", "u", 4)), "done")
        self.told(house, "a", 3, "b", 3)
        self.assertEqual(house.events("p"), (0, 1, 0, 2))

    def test_high_that_cannot_be_kept(self):
        rows = groups(("p", ""), ("a", "p")) + [due("a", "min", 9), due("p", "high", 3)]
        house = self.house(*rows, *tasks(t="a"), ("charge", "t", 5))
        self.assertEqual((house.use("p"), house.events("p")), (5, (0, 1, 0, 0)))
        house.do(("charge", "t", 0))
        self.assertEqual((house.use("p"), house.events("p"), house.ended()), (5, (0, 2, 0, 0), []))
        house.do(("free", "t", 1))
        self.assertEqual(house.events("p"), (0, 2, 0, 0))

    def test_max_and_high(self):
        rows = groups(("a", "")) + [due("a", "max", 6), due("a", "high", 4)]
        house = self.house(*rows, *tasks(t="a"), ("charge", "t", 4))
        self.assertEqual(house.do(("charge", "t", 3)), "done")
        self.assertEqual((house.use("a"), house.events("a")), (4, (1, 1, 0, 3)))

    def test_events_by_all_three_ways(self):
        rows = groups(("p", ""), ("a", "p")) + [due("p", "max", 9), due("p", "high", 7)]
        house = self.house(*rows, *tasks(t="a"), ("charge", "t", 7))
        house.do(("charge", "t", 3))
        house.do(("reclaim", "", "p", 2))
        house.do(("reclaim", "", "a", 9))
        self.assertEqual((house.events("p"), house.events("a")), ((1, 1, 0, 1 + 2 + 2), (0, 0, 0, 5)))

    def test_pages_of_tasks_that_ended_are_not_counted(self):
        rows = groups(("p", ""), ("a", "p"), ("b", "p")) + [due("a", "min", 5), due("p", "max", 10)]
        house = self.house(*rows, *tasks(t="a", u="b"), ("charge", "t", 5), ("charge", "u", 4))
        self.assertEqual(house.do(("charge", "u", 8)), "done")
        self.assertEqual((house.events("p"), house.ended(), house.pages("u")), ((1, 0, 1, 4), ["t"], {"b": 8}))

    def test_long_numbers(self):
        long = 10 ** 300
        rows = groups(("p", ""), ("a", "p"), ("b", "p"), ("c", "p")) + [due("p", "max", 3 * long)]
        house = self.house(*rows, *tasks(t="a", u="b", v="c"), ("charge", "t", long), ("charge", "u", long),
                           ("charge", "v", long))
        self.assertEqual(house.do(("charge", "t", long)), "done")
        self.told(house, "p", 3 * long, "a", 2 * long - long // 3 - 1, "b", long - long // 3, "c", long - long // 3)


class ReclaimsTest(unittest.TestCase):
    def check(self, rows, uses, dues, pages, wanted, taken=None):
        """Reclaim at p; the tasks have the names of their groups."""
        house = House()
        for name, above in rows:
            house.do(("make", "", name, above))
        for (name, word), value in dues.items():
            house.do(due(name, word, value))
        for name, use in uses.items():
            house.do(("task", "", name, name))
            house.do(("charge", name, use))
        house.do(("reclaim", "", "p", pages))
        self.assertEqual({name: house.use(name) for name in uses}, wanted)
        gone = sum(uses.values()) - sum(wanted.values())
        self.assertEqual(house.events("p"), (0, 0, 0, gone))
        self.assertEqual(gone, pages if taken is None else taken)

    flat = [("p", ""), ("a", "p"), ("b", "p"), ("c", "p")]

    def test_in_proportion(self):
        self.check(self.flat, {"a": 4, "b": 8, "c": 0}, {}, 6, {"a": 2, "b": 4, "c": 0})

    def test_parts_that_are_cut_off(self):
        # The parts are 4/3, 8/3 and 0, then 5 * 3/13 and so on: 15/13, 18/13 and 32/13.
        self.check(self.flat, {"a": 4, "b": 8, "c": 0}, {}, 4, {"a": 3, "b": 5, "c": 0})
        self.check(self.flat, {"a": 4, "b": 5, "c": 9}, {}, 5, {"a": 3, "b": 4, "c": 6})

    def test_equal_parts(self):
        self.check(self.flat, {"a": 1, "b": 1, "c": 1}, {}, 1, {"a": 0, "b": 1, "c": 1})
        self.check(self.flat, {"a": 2, "b": 2, "c": 2}, {}, 2, {"a": 1, "b": 1, "c": 2})
        self.check(self.flat, {"a": 3, "b": 5, "c": 3}, {}, 4, {"a": 2, "b": 3, "c": 2})
        # The order of making counts, not that of the names.
        rows = [("p", ""), ("b", "p"), ("a", "p")]
        self.check(rows, {"a": 1, "b": 1}, {}, 1, {"a": 1, "b": 0})
        rows = [("p", ""), ("q", "p"), ("c", "p"), ("a", "q"), ("d", "p")]
        self.check(rows, {"a": 3, "c": 3, "d": 3}, {}, 4, {"a": 2, "c": 1, "d": 2})

    def test_a_group_that_was_made_again_is_the_last(self):
        house = House()
        for row in groups(("p", ""), ("a", "p"), ("b", "p")) + [("drop", "", "a"), ("make", "", "a", "p")]:
            house.do(row)
        for row in tasks(a="a", b="b") + [("charge", "a", 1), ("charge", "b", 1), ("reclaim", "", "p", 1)]:
            house.do(row)
        self.assertEqual((house.use("a"), house.use("b")), (1, 0))

    def test_all_that_there_is(self):
        self.check(self.flat, {"a": 4, "b": 8, "c": 1}, {}, 14, {"a": 0, "b": 0, "c": 0}, taken=13)
        self.check(self.flat, {"a": 4, "b": 8, "c": 1}, {}, 13, {"a": 0, "b": 0, "c": 0})
        self.check(self.flat, {"a": 4, "b": 8, "c": 1}, {}, 12, {"a": 0, "b": 1, "c": 0})

    def test_both_goes(self):
        dues = {("a", "min"): 2, ("a", "low"): 4, ("b", "min"): 3, ("c", "low"): 1}
        uses = {"a": 10, "b": 9, "c": 1}
        # 12 lie beyond what min and low protect; then a has 2 and c 1 beyond min.
        self.check(self.flat, uses, dues, 12, {"a": 4, "b": 3, "c": 1})
        self.check(self.flat, uses, dues, 13, {"a": 3, "b": 3, "c": 1})
        self.check(self.flat, uses, dues, 14, {"a": 3, "b": 3, "c": 0})
        self.check(self.flat, uses, dues, 20, {"a": 2, "b": 3, "c": 0}, taken=15)

    def test_the_sum_of_a_go_is_cut_down(self):
        # q protects 5 for claims of 3 and 6: a 5/3 and b 10/3. 4 lie beyond by min, and as much by low.
        rows = [("p", ""), ("q", "p"), ("a", "q"), ("b", "q"), ("c", "p")]
        dues = {("q", "min"): 5, ("a", "min"): 3, ("b", "min"): 6}
        self.check(rows, {"a": 3, "b": 6, "c": 0}, dues, 9, {"a": 2, "b": 3, "c": 0}, taken=4)
        # a 5/2 of 3, b 5/2 of 3: 1/2 and 1/2, so that one page is taken, of the first. Behind this a claims 2
        # and b 3, which q protects as a whole.
        self.check(rows, {"a": 3, "b": 3, "c": 0}, dues, 9, {"a": 2, "b": 3, "c": 0}, taken=1)
        dues[("c", "min")] = 2
        self.check(rows, {"a": 3, "b": 3, "c": 4}, dues, 9, {"a": 2, "b": 3, "c": 2}, taken=3)

    def test_the_second_go_is_cut_by_itself(self):
        # By low a and b are held at 3 and 3; a go takes nothing, then min holds none.
        rows = [("p", ""), ("a", "p"), ("b", "p")]
        self.check(rows, {"a": 3, "b": 3}, {("a", "low"): 3, ("b", "low"): 3}, 3, {"a": 1, "b": 2})
        # 2 lie beyond and are taken, 1 each; then 1 of the rest, of a.
        self.check(rows, {"a": 4, "b": 4}, {("a", "low"): 3, ("b", "low"): 3}, 3, {"a": 2, "b": 3})
        self.check(rows, {"a": 4, "b": 4}, {("a", "low"): 3, ("b", "low"): 3}, 1, {"a": 3, "b": 4})

    def test_a_part_of_a_page_below_what_is_held(self):
        # q protects 5 for 3 claims of 3, 5/3 each: 4 lie beyond, 4/3 of each, of which 3 are taken: 1 each; of 4
        # the first one has one more taken, and falls to 1.
        rows = [("p", ""), ("q", "p"), ("a", "q"), ("b", "q"), ("c", "q")]
        dues = {("q", "min"): 5, ("a", "min"): 3, ("b", "min"): 3, ("c", "min"): 3}
        self.check(rows, {"a": 3, "b": 3, "c": 3}, dues, 3, {"a": 2, "b": 2, "c": 2})
        self.check(rows, {"a": 3, "b": 3, "c": 3}, dues, 4, {"a": 1, "b": 2, "c": 2})

    def test_the_dues_of_the_top_and_above_do_not_count(self):
        rows = [("o", ""), ("p", "o"), ("a", "p"), ("b", "p")]
        dues = {("o", "min"): 99, ("p", "min"): 99, ("p", "low"): 99, ("a", "low"): 3, ("a", "min"): 3}
        self.check(rows, {"a": 4, "b": 4}, dues, 5, {"a": 3, "b": 0})
        self.check(rows, {"a": 4, "b": 4}, dues, 9, {"a": 3, "b": 0}, taken=5)

    def test_nothing_is_handed_on(self):
        rows = [("p", ""), ("q", "p"), ("a", "q"), ("b", "p")]
        self.check(rows, {"a": 4, "b": 4}, {("q", "min"): 9}, 8, {"a": 0, "b": 0})

    def test_a_leaf_has_nothing_protected(self):
        self.check([("p", "")], {"p": 5}, {("p", "min"): 9, ("p", "low"): 9}, 3, {"p": 2})
        self.check([("p", "")], {"p": 5}, {("p", "min"): 9}, 7, {"p": 0}, taken=5)

    def test_low_beside_min_is_the_greater_one(self):
        """[34]: each by itself, so that both together may be more than what stands above."""
        rows = [("p", ""), ("q", "p"), ("a", "q"), ("b", "q")]
        dues = {("q", "min"): 4, ("q", "low"): 4, ("a", "min"): 4, ("b", "low"): 4}
        # a is held at 4 by min, b at 4 by low: 8 together, though q has no more than 4 of each.
        self.check(rows, {"a": 6, "b": 6}, dues, 4, {"a": 4, "b": 4})
        self.check(rows, {"a": 6, "b": 6}, dues, 5, {"a": 4, "b": 3})
        self.check(rows, {"a": 6, "b": 6}, dues, 12, {"a": 4, "b": 0}, taken=8)

    def test_all_is_taken_at_once(self):
        """[34]: in two rows it may be taken from others than in one."""
        both = []
        for amounts in ((2,), (1, 1)):
            house = House()
            for row in groups(("p", ""), ("a", "p"), ("b", "p")) + tasks(a="a", b="b"):
                house.do(row)
            for row in [("charge", "a", 1), ("charge", "b", 3)] + [("reclaim", "", "p", one) for one in amounts]:
                house.do(row)
            both.append((house.use("a"), house.use("b")))
        # Parts of 1/2 and 3/2; else of 1/4 and 3/4, then 1/3 and 2/3.
        self.assertEqual(both, [(0, 2), (1, 1)])


if __name__ == "__main__":
    unittest.main()
