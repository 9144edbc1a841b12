"""Trees of groups, their dues, and the checks of what speaks of a tree."""

from branchdues.amounts import is_amount, is_integer
from branchdues.errors import NoDue, NoName, NoTree, NoWord

ENDLESS = "endless"

# Each word of a due, with the value that it has if it is left out.
LEFT_OUT = {
    "min": (0, 1),
    "low": (0, 1),
    "max": "endless",
    "quota": "endless",
    "burst": (0, 1),
    "tops": "endless",
    "sets": None,
    "alone": 0,
}

GREATEST_PROCESSOR = 63


def is_name(thing):
    """The root has a name, too, but "" is none that a group may be given."""
    if not isinstance(thing, str) or not 1 <= len(thing) <= 10:
        return False
    return all(["a" <= letter <= "z" for letter in thing])


def is_word(thing):
    return isinstance(thing, str) and thing in LEFT_OUT


def is_endless(thing):
    return isinstance(thing, str) and thing == ENDLESS


def is_set(thing):
    if not isinstance(thing, tuple):
        return False
    ahead = -1
    for number in thing:
        if not is_integer(number) or not ahead < number <= GREATEST_PROCESSOR:
            return False
        ahead = number
    return True


def may_have(word, value):
    """Whether the due of this word may have the value, whatever group it is of."""
    if word in ("min", "low", "burst"):
        return is_amount(value)
    if word == "sets":
        return value is None or is_set(value)
    if word == "alone":
        return is_integer(value) and value in (0, 1)
    return is_endless(value) or is_amount(value)


def is_due(thing):
    if not isinstance(thing, tuple) or len(thing) != 2:
        return False
    word, value = thing
    return is_word(word) and may_have(word, value)


def is_dues(thing):
    if not isinstance(thing, tuple):
        return False
    words = {}
    for due in thing:
        if not is_due(due) or due[0] in words:
            return False
        words[due[0]] = True
    return True


def is_group_row(thing):
    """Whether a row is right as far as it speaks of itself."""
    if not isinstance(thing, tuple) or len(thing) != 3:
        return False
    name, above, dues = thing
    return is_name(name) and isinstance(above, str) and is_dues(dues)


class Tree:
    """A tree of groups; it is never changed, so that parts of it may be shared with others."""

    def __init__(self, rows, handing=False):
        if not isinstance(rows, list):
            raise NoTree(-1)
        self.order = []
        self.parents = {}
        self.kids = {"": []}
        self.table = {}
        for at, row in enumerate(rows):
            if not is_group_row(row) or not may_stand(self, row):
                raise NoTree(at)
            name, above, dues = row
            self.order.append(name)
            self.parents[name] = above
            self.kids[name] = []
            self.kids[above].append(name)
            self.table[name] = {**dict(LEFT_OUT), **dict(dues)}
        if not isinstance(handing, bool):
            raise NoTree(len(rows))
        self.hands = handing

    def __eq__(self, other):
        return (isinstance(other, Tree) and self.order == other.order and self.parents == other.parents
                and self.table == other.table and self.hands == other.hands)

    def names(self):
        return list(self.order)

    def above(self, name):
        check_group(self, name)
        return self.parents[name]

    def children(self, name):
        if not isinstance(name, str) or name not in self.kids:
            raise NoName("no group of the tree, and not the root")
        return list(self.kids[name])

    def leaves(self):
        return [name for name in self.order if not self.kids[name]]

    def path(self, name):
        check_group(self, name)
        groups = []
        while name != "":
            groups.append(name)
            name = self.parents[name]
        return groups

    def due(self, name, word):
        check_group(self, name)
        if not is_word(word):
            raise NoWord("no word of a due")
        return self.table[name][word]

    def handing(self):
        return self.hands

    def with_due(self, name, word, value):
        check_group(self, name)
        if not is_word(word):
            raise NoWord("no word of a due")
        if not may_have(word, value):
            raise NoDue("not a value of this due")
        if word == "tops" and self.kids[name] and not is_endless(value):
            raise NoDue("tops of a group with children")
        changed = Tree([], self.hands)
        changed.order = self.order
        changed.parents = self.parents
        changed.kids = self.kids
        changed.table = {**self.table, name: {**self.table[name], word: value}}
        return changed


def may_stand(tree, row):
    """Whether a right row may stand behind the rows that the tree has by now."""
    name, above, dues = row
    if name in tree.parents or above not in tree.kids:
        return False
    return above == "" or is_endless(tree.table[above]["tops"])


def check_tree(thing):
    if not isinstance(thing, Tree):
        raise NoTree(-1)


def check_group(tree, name):
    """The root is not a group of the tree here."""
    if not isinstance(name, str) or name not in tree.parents:
        raise NoName("no group of the tree")


def check_top(tree, top):
    if not isinstance(top, str) or top not in tree.kids:
        raise NoName("no group of the tree, and not the root")
    if top != "" and not tree.kids[top]:
        raise NoName("a leaf cannot be a top")


def groups_below(tree, top):
    """The groups below a top, in the order of the rows."""
    found = {}
    for name in tree.names():
        if tree.above(name) == top or tree.above(name) in found:
            found[name] = True
    return list(found)


def is_from_leaves(tree, thing):
    """Whether a thing is a dict from leaves of the tree to amounts."""
    if not isinstance(thing, dict):
        return False
    leaves = {leaf: True for leaf in tree.leaves()}
    return all([leaf in leaves and is_amount(thing[leaf]) for leaf in thing])


def leaves_at(tree, name):
    """The leaves below a group, or a leaf itself, in the order of the rows."""
    inside = {group: True for group in [name] + groups_below(tree, name)}
    return [leaf for leaf in tree.leaves() if leaf in inside]
