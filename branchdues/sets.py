"""Which processors each group has."""

from branchdues.errors import NoSet
from branchdues.trees import check_tree, is_set


def sets(tree, whole):
    check_tree(tree)
    check_whole(whole)
    return handed_down(tree, whole)[0]


def stands_alone(tree, whole):
    check_tree(tree)
    check_whole(whole)
    alone = handed_down(tree, whole)[1]
    return [name for name in tree.names() if name in alone]


def check_whole(whole):
    if not is_set(whole) or len(whole) == 0:
        raise NoSet("no set of processors")


def handed_down(tree, whole):
    """What each group has, and a dict with the groups that stand alone."""
    has = {"": whole}
    alone = {"": True}
    for name in [""] + tree.names():
        free = has[name]
        for child in tree.children(name):
            if name in alone and may_stand_alone(tree, child, free):
                alone[child] = True
                has[child] = tree.due(child, "sets")
                free = without(free, has[child])
        for child in tree.children(name):
            if child not in alone:
                has[child] = shared(tree.due(child, "sets"), free)
    return {name: has[name] for name in tree.names()}, alone


def may_stand_alone(tree, child, free):
    """Whether a child of a group that stands alone does so too, if those ahead leave so much free."""
    asked = tree.due(child, "sets")
    if tree.due(child, "alone") == 0 or not asked:
        return False
    return all([number in free for number in asked]) and len(asked) < len(free)


def shared(asked, free):
    """What a child that does not stand alone has of the free ones."""
    found = tuple([number for number in free if asked is not None and number in asked])
    return found if found else free


def without(numbers, gone):
    return tuple([number for number in numbers if number not in gone])
