"""What groups are protected, and what a reclaim takes."""

from branchdues.amounts import ZERO, greater, is_amount, is_less, lesser, minus, over, plus, times, total
from branchdues.errors import NoAmount, NoKind, NoName, NoUses
from branchdues.trees import check_top, check_tree, groups_below, is_from_leaves, leaves_at

KINDS = ("min", "low")


def check_kind(kind):
    if not isinstance(kind, str) or kind not in KINDS:
        raise NoKind("neither min nor low")


def check_amount(amount):
    if not is_amount(amount):
        raise NoAmount("not an amount")


def told_uses(tree, uses):
    """The uses of all leaves of the tree, in the order of the rows."""
    if not is_from_leaves(tree, uses):
        raise NoUses("not a dict from leaves to amounts")
    return {leaf: uses.get(leaf, ZERO) for leaf in tree.leaves()}


def with_groups(tree, uses, names):
    """The uses of these leaves and of the groups above them, all of whose children are among the names."""
    used = {}
    for name in reversed(names):
        children = tree.children(name)
        used[name] = total([used[child] for child in children]) if children else uses[name]
    return used


def protected(tree, uses, top, kind):
    check_tree(tree)
    used = told_uses(tree, uses)
    check_top(tree, top)
    check_kind(kind)
    return held(tree, used, top, kind)


def held(tree, uses, top, kind):
    """What is protected of each group below the top, if all leaves have these uses."""
    names = groups_below(tree, top)
    used = with_groups(tree, uses, names)
    claims = {name: lesser(used[name], tree.due(name, kind)) for name in names}
    parts = {name: claims[name] for name in tree.children(top)}
    for name in names:
        if tree.children(name):
            parts.update(parted(tree, name, parts[name], used, claims))
    return {name: parts[name] for name in names}


def parted(tree, name, part, used, claims):
    """How what is protected of a group is parted among its children."""
    children = tree.children(name)
    claimed = total([claims[child] for child in children])
    if is_less(part, claimed):
        rate = over(part, claimed)
        return {child: times(claims[child], rate) for child in children}
    if not tree.handing() or not is_less(claimed, used[name]):
        return {child: claims[child] for child in children}
    rate = over(minus(part, claimed), minus(used[name], claimed))
    beyond = {child: minus(used[child], claims[child]) for child in children}
    return {child: plus(claims[child], times(beyond[child], rate)) for child in children}


def reclaimed(tree, uses, top, amount):
    check_tree(tree)
    used = told_uses(tree, uses)
    check_top(tree, top)
    check_amount(amount)
    return after_both_goes(tree, used, top, amount)


def after_both_goes(tree, uses, top, amount):
    """The uses of all leaves behind a reclaim, and what could not be taken."""
    uses, amount = after_go(tree, uses, top, amount, KINDS)
    return after_go(tree, uses, top, amount, ("min",))


def after_go(tree, uses, top, amount, kinds):
    """The uses behind one go that takes nothing of what these kinds protect, and what it could not take."""
    if amount == ZERO:
        return uses, ZERO
    kept = kept_by(tree, uses, top, kinds)
    beyond = {leaf: minus(uses[leaf], kept[leaf]) for leaf in kept}
    free = total([beyond[leaf] for leaf in beyond])
    left = dict(uses)
    if not is_less(amount, free):
        left.update(kept)
        return left, minus(amount, free)
    rate = over(amount, free)
    left.update({leaf: minus(uses[leaf], times(beyond[leaf], rate)) for leaf in beyond})
    return left, ZERO


def kept_by(tree, uses, top, kinds):
    """What each leaf below a top is held at, if these kinds protect it."""
    kept = held(tree, uses, top, kinds[0])
    for kind in kinds[1:]:
        more = held(tree, uses, top, kind)
        kept = {name: greater(kept[name], more[name]) for name in kept}
    return {leaf: kept[leaf] for leaf in uses if leaf in kept}


def keeps(tree, uses, top, amount, name):
    check_tree(tree)
    used = told_uses(tree, uses)
    check_top(tree, top)
    check_amount(amount)
    if name not in groups_below(tree, top):
        raise NoName("not below the top")
    left = after_both_goes(tree, used, top, amount)[0]
    return all([left[leaf] == used[leaf] for leaf in leaves_at(tree, name)])
