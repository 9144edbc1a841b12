"""Houses against what the document says of them, word by word, over long histories."""

import unittest
from fractions import Fraction
from random import Random

from branchdues.errors import NoName, Refused
from branchdues.houses import House, is_row, replayed
from branchdues.trees import Tree
from helper import INFINITY, plainly_protected, told

GROUPS = ["h", "g", "p", "q", "b", "a", "ab", "c"]
TASKS = ["t", "s", "a", "u", "ta", "x"]
WHO = ["", "", "", "", "", "o", "w"]
WORDS = ("min", "low", "max", "high", "number")


class PlainRefusal(Exception):
    pass


class PlainGroup:
    def __init__(self, name, above):
        self.name, self.above, self.owner, self.mark = name, above, None, False
        self.dues = {"min": 0, "low": 0, "max": INFINITY, "high": INFINITY, "number": INFINITY}
        self.events = [0, 0, 0, 0]


class PlainTask:
    def __init__(self, name, group):
        self.name, self.group, self.pages = name, group, {}


class PlainHouse:
    """A house in other words than the package's: slow, and plain to read."""

    def __init__(self):
        self.groups, self.tasks, self.ends, self.done = [], [], [], []

    def named(self, things, name):
        return next((thing for thing in things if thing.name == name), None)

    def line(self, name):
        """A group and all above it, without the root."""
        group = self.named(self.groups, name)
        return [group] + self.line(group.above) if group else []

    def inside(self, name):
        return [group.name for group in self.groups if name in [one.name for one in self.line(group.name)]]

    def kids(self, name):
        return [group.name for group in self.groups if group.above == name]

    def use(self, name):
        return sum(task.pages.get(group, 0) for task in self.tasks for group in self.inside(name))

    def crowd(self, name):
        return len([task for task in self.tasks if task.group in self.inside(name)])

    def frozen(self, task):
        return any(group.mark for group in self.line(task.group))

    def theirs(self, who, name):
        return who == "" or who in [group.owner for group in self.line(name)]

    def refuse(self, kind, wrong):
        if wrong:
            raise PlainRefusal(kind)

    def there(self, name, *more):
        """Names of groups that must be there."""
        for one in (name,) + more:
            self.refuse("name", self.named(self.groups, one) is None)

    def task(self, name):
        task = self.named(self.tasks, name)
        self.refuse("name", task is None)
        return task

    def do(self, row):
        answer = getattr(self, "do_" + row[0])(*row[1:]) or "done"
        self.done.append(row)
        return answer

    def do_make(self, who, name, above):
        self.refuse("name", self.named(self.groups, name))
        if above:
            self.there(above)
        self.refuse("owner", not self.theirs(who, above))
        own = [task for task in self.tasks if task.group == above or above in task.pages]
        self.refuse("state", own)
        self.groups.append(PlainGroup(name, above))

    def do_drop(self, who, name):
        self.there(name)
        group = self.named(self.groups, name)
        self.refuse("owner", not self.theirs(who, group.above))
        self.refuse("state", self.kids(name) or self.crowd(name) or self.use(name))
        self.groups.remove(group)

    def do_due(self, who, name, word, value):
        self.there(name)
        group = self.named(self.groups, name)
        self.refuse("owner", not self.theirs(who, group.above))
        group.dues[word] = INFINITY if value == "endless" else value

    def do_own(self, who, name, owner):
        self.there(name)
        group = self.named(self.groups, name)
        self.refuse("owner", not self.theirs(who, group.above))
        group.owner = owner

    def enter(self, name, group):
        for one in self.line(group):
            self.refuse("number", self.crowd(one.name) + 1 > one.dues["number"])
        self.tasks.append(PlainTask(name, group))

    def do_task(self, who, name, group):
        self.refuse("name", self.named(self.tasks, name))
        self.there(group)
        self.refuse("owner", not self.theirs(who, group))
        self.refuse("state", self.kids(group))
        self.enter(name, group)

    def do_fork(self, name, new):
        task = self.task(name)
        self.refuse("name", self.named(self.tasks, new))
        self.refuse("state", self.frozen(task))
        self.enter(new, task.group)

    def do_move(self, who, name, group):
        task = self.task(name)
        self.there(group)
        both = [one.name for one in self.line(task.group) if one in self.line(group)]
        self.refuse("owner", not self.theirs(who, both[0] if both else ""))
        self.refuse("state", self.kids(group))
        task.group = group

    def do_end(self, name):
        self.tasks.remove(self.task(name))

    def do_charge(self, name, pages):
        task = self.task(name)
        self.refuse("state", self.frozen(task))
        for group in self.line(task.group):
            over = self.use(group.name) + pages - group.dues["max"]
            if over > 0:
                group.events[0] += 1
                self.reclaim(group, over)
                while self.use(group.name) + pages > group.dues["max"]:
                    owed = {one.name: sum(one.pages.get(part, 0) for part in self.inside(group.name))
                            for one in self.tasks}
                    if not any(owed.values()):
                        break
                    first = min(owed, key=lambda one: (-owed[one], one))
                    self.tasks.remove(self.named(self.tasks, first))
                    self.ends.append(first)
                    group.events[2] += 1
                if task not in self.tasks or self.use(group.name) + pages > group.dues["max"]:
                    return "max"
        self.add(task, task.group, pages)
        for group in self.line(task.group):
            over = self.use(group.name) - group.dues["high"]
            if over > 0:
                group.events[1] += 1
                self.reclaim(group, over)

    def add(self, task, group, pages):
        task.pages[group] = task.pages.get(group, 0) + pages
        if not task.pages[group]:
            del task.pages[group]

    def do_free(self, name, pages):
        task = self.task(name)
        self.refuse("state", self.frozen(task) or task.pages.get(task.group, 0) < pages)
        self.add(task, task.group, -pages)

    def do_reclaim(self, who, name, pages):
        self.there(name)
        self.refuse("owner", not self.theirs(who, name))
        self.reclaim(self.named(self.groups, name), pages)

    def do_freeze(self, who, name, mark=True):
        self.there(name)
        self.refuse("owner", not self.theirs(who, name))
        self.named(self.groups, name).mark = mark

    def do_thaw(self, who, name):
        self.do_freeze(who, name, False)

    def reclaim(self, group, pages):
        leaves = [name for name in self.inside(group.name) if not self.kids(name)]
        for kinds in (("min", "low"), ("min",)):
            uses = {leaf: self.use(leaf) for leaf in leaves}
            beyond = {leaf: Fraction(uses[leaf]) for leaf in leaves}
            if self.kids(group.name):
                tree = self.tree()
                parts = [plainly_protected(tree, {leaf: told(uses[leaf]) for leaf in leaves}, group.name, kind)
                         for kind in kinds]
                beyond = {leaf: uses[leaf] - max(part[leaf] for part in parts) for leaf in leaves}
            whole = sum(beyond.values())
            taken = int(min(pages, whole))
            if not taken:
                continue
            shares = {leaf: beyond[leaf] * taken / whole for leaf in leaves}
            cut = {leaf: int(shares[leaf]) for leaf in leaves}
            # Sorted keeps the order of making among equal ones.
            first = sorted(leaves, key=lambda leaf: cut[leaf] - shares[leaf])[:taken - sum(cut.values())]
            for leaf in leaves:
                self.take(leaf, cut[leaf] + (leaf in first))
            group.events[3] += taken
            pages -= taken

    def tree(self):
        return Tree([(group.name, group.above, tuple((word, told(group.dues[word])) for word in ("min", "low")))
                     for group in self.groups])

    def take(self, leaf, pages):
        for task in sorted(self.tasks, key=lambda task: task.name):
            part = min(pages, task.pages.get(leaf, 0))
            self.add(task, leaf, -part)
            pages -= part

    def tells(self):
        """All that the questions tell."""
        names = [group.name for group in self.groups]
        found = {"names": names, "children": {name: self.kids(name) for name in [""] + names}}
        for group in self.groups:
            found[group.name] = (
                self.use(group.name), sorted(task.name for task in self.tasks if task.group == group.name),
                self.crowd(group.name), group.mark, group.owner, tuple(group.events),
                {word: "endless" if due == INFINITY else due for word, due in group.dues.items()})
        found["tasks"] = {task.name: (task.group, task.pages, self.frozen(task)) for task in self.tasks}
        found["ended"] = list(self.ends)
        found["rows"] = list(self.done)
        return found


def begin_rows(random):
    """Groups whose leaves are protected below a max, so that tasks end; empty for every other house."""
    if random.random() < 0.5:
        return []
    rows = [("make", "", name, above) for name, above in (("p", ""), ("q", "p"), ("a", "q"), ("b", "q"), ("c", "p"))]
    rows += [("due", "", name, "min", random.choice([0, 5, 9, 30])) for name in "qabc"]
    rows += [("due", "", "p", "max", random.choice([20, 30])), ("due", "", "q", "max", random.choice([9, 15, "endless"]))]
    return rows + [("task", "", name, random.choice("abc")) for name in TASKS[:4]]


def all_groups(house):
    names = house.children("")
    for name in names:
        names += house.children(name)
    return names


def all_tasks(house):
    return [task for name in all_groups(house) for task in house.tasks(name)]


def mostly(random, names, all_names):
    return random.choice(names) if names and random.random() < 0.9 else random.choice(all_names)


def random_row(random, house):
    who = random.choice(WHO)
    groups, tasks = all_groups(house), all_tasks(house)
    group, other, task = mostly(random, groups, GROUPS), mostly(random, groups, GROUPS), mostly(random, tasks, TASKS)
    leaf = mostly(random, [name for name in groups if not house.children(name)], GROUPS)
    new_group = mostly(random, [name for name in GROUPS if name not in groups], GROUPS)
    new_task = mostly(random, [name for name in TASKS if name not in tasks], TASKS)
    pages = random.choice([0, 1, 2, 3, 5, 8, 13])
    word = random.choice(["min", "min", "low", "max", "max", "high", "number"])
    if word == "number":
        value = random.choice([0, 1, 2, 3, "endless", "endless"])
    elif word in ("max", "high"):
        value = random.choice([0, 4, 9, 14, 20, "endless", "endless"])
    else:
        value = random.choice([0, 1, 3, 7, 20, 40])
    rows = {
        "make": (who, new_group, random.choice(["", other, other])), "drop": (who, group),
        "due": (who, group, word, value), "own": (who, group, random.choice([None, "o", "w"])),
        "task": (who, new_task, random.choice([leaf, leaf, group])), "fork": (task, new_task),
        "move": (who, task, random.choice([leaf, leaf, group])), "end": (task,),
        "charge": (task, pages), "free": (task, pages), "reclaim": (who, group, pages), "freeze": (who, group),
        "thaw": (who, group),
    }
    often = ["make"] * 3 + ["due"] * 4 + ["task"] * 4 + ["move"] * 2 + ["charge"] * 20 + ["free"] * 2 + ["thaw"] * 3
    word = random.choice(list(rows) + often + ["reclaim"] * 2)
    return (word,) + rows[word]


def tells(house):
    """All that the questions tell, in the form of the plain house."""
    names = all_groups(house)
    found = {"children": {name: house.children(name) for name in [""] + names}}
    for name in names:
        found[name] = (
            house.use(name), house.tasks(name), house.count(name), house.is_marked(name), house.owner(name),
            house.events(name), {word: house.due(name, word) for word in WORDS})
    found["tasks"] = {
        task: (house.group(task), house.pages(task), house.is_frozen(task)) for task in all_tasks(house)}
    found["ended"] = house.ended()
    found["rows"] = house.rows()
    return found


class HistoriesTest(unittest.TestCase):
    def test_like_a_plain_reckoning(self):
        seen = {}
        ended = 0
        for seed in range(80):
            random = Random(seed)
            house, plain = House(), PlainHouse()
            begin = begin_rows(random)
            for turn in range(200):
                row = begin[turn] if turn < len(begin) else random_row(random, house)
                self.assertIs(is_row(row), True)
                before = house.copy()
                try:
                    wanted = plain.do(row)
                except PlainRefusal as refusal:
                    wanted = str(refusal)
                    with self.assertRaises(Refused) as caught:
                        house.do(row)
                    self.assertEqual(caught.exception.kind, wanted, (seed, turn, row))
                    self.assertEqual(house, before)
                else:
                    self.assertEqual(house.do(row), wanted, (seed, turn, row))
                seen[row[0], wanted] = seen.get((row[0], wanted), 0) + 1
                if turn % 10 == 9:
                    self.check(house, plain, seed, turn)
            ended += len(house.ended())
        self.check_seen(seen)
        self.assertGreater(ended, 40)

    def check(self, house, plain, seed, turn):
        wanted = plain.tells()
        del wanted["names"]
        found = tells(house)
        self.assertEqual(found, wanted, (seed, turn))
        again = replayed(house.rows())
        self.assertEqual(again, house)
        self.assertEqual(again.rows(), house.rows())
        self.assertEqual(tells(house.copy()), found)
        for name in GROUPS:
            if name not in found:
                with self.assertRaises(NoName):
                    house.use(name)

    def check_seen(self, seen):
        """All rows are done, and refused by each kind that can be."""
        for word in ("make", "drop", "due", "own", "task", "fork", "move", "end", "charge", "free", "reclaim",
                     "freeze", "thaw"):
            for kind in ("done", "name"):
                self.assertGreater(seen.get((word, kind), 0), 5, (word, kind))
        for word in ("make", "drop", "due", "own", "task", "move", "reclaim", "freeze", "thaw"):
            self.assertGreater(seen.get((word, "owner"), 0), 5, word)
        for word in ("make", "drop", "task", "fork", "move", "charge", "free"):
            self.assertGreater(seen.get((word, "state"), 0), 3, word)
        for word in ("task", "fork"):
            self.assertGreater(seen.get((word, "number"), 0), 3, word)
        self.assertGreater(seen.get(("charge", "max"), 0), 50)


if __name__ == "__main__":
    unittest.main()
