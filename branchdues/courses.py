"""What passes, period by period, if groups have budgets."""

from branchdues.amounts import ZERO, lesser, minus, over, plus, times, total
from branchdues.errors import NoWants
from branchdues.trees import is_endless, is_from_leaves


def check_wants(tree, wants):
    if not isinstance(wants, list):
        raise NoWants("not a list")
    for wanted in wants:
        if not is_from_leaves(tree, wanted):
            raise NoWants("not from leaves to amounts")


def course(tree, wants):
    """For each period the dicts (what passes all groups, what is left of the budgets, what waits at the leaves).

    The last two tell what there is before it passes: what is behind is reckoned only where it is asked for.
    """
    left = {name: tree.due(name, "quota") for name in bounded(tree)}
    waits = {leaf: ZERO for leaf in tree.leaves()}
    passes = None
    told = []
    for wanted in wants:
        if passes is not None:
            left = renewed(tree, behind(left, passes))
            waits = behind(waits, passes)
        waits = {leaf: plus(waits[leaf], wanted.get(leaf, ZERO)) for leaf in waits}
        offers, sums = offered(tree, waits, left)
        passes = passing(tree, offers, sums)
        told.append((passes, left, waits))
    return told


def bounded(tree):
    """The groups with a quota that is not endless."""
    return [name for name in tree.names() if not is_endless(tree.due(name, "quota"))]


def behind(amounts, passes):
    """What is there of these amounts when this has passed."""
    return {name: minus(amounts[name], passes[name]) for name in amounts}


def renewed(tree, left):
    """What is left of the budgets at the begin of a period, if this was left at the end of the one ahead."""
    return {name: plus(tree.due(name, "quota"), lesser(left[name], tree.due(name, "burst"))) for name in left}


def offered(tree, waits, left):
    """The offers of all groups, and what the children of each group that has some offer together."""
    offers = {}
    sums = {}
    for name in reversed(tree.names()):
        children = tree.children(name)
        if children:
            sums[name] = total([offers[child] for child in children])
            offers[name] = sums[name]
        else:
            tops = tree.due(name, "tops")
            offers[name] = waits[name] if is_endless(tops) else lesser(waits[name], tops)
        if name in left:
            offers[name] = lesser(offers[name], left[name])
    return offers, sums


def passing(tree, offers, sums):
    """What passes all groups of what they offer."""
    passes = {name: offers[name] for name in tree.children("")}
    for name in tree.names():
        children = tree.children(name)
        if children and passes[name] == sums[name]:
            passes.update({child: offers[child] for child in children})
        elif children:
            rate = over(passes[name], sums[name])
            passes.update({child: times(offers[child], rate) for child in children})
    return {name: passes[name] for name in tree.names()}
