"""What a group is protected for all uses of all others.

The path is the group, the groups above it, up to a child of the top. It is reckoned with as a list of
steps (setting, beside, counts), the group first: its setting, the sum of the settings of its siblings, and
whether its setting matters. The siblings of the child of the top do not matter, so there beside is 0.
"""

from branchdues.amounts import ZERO, is_less, lesser, minus, over, plus, times, total
from branchdues.errors import NoAmount, NoName
from branchdues.protections import check_amount, check_kind
from branchdues.trees import check_group, check_top, check_tree, groups_below, leaves_at


def least(tree, name, use, top, kind):
    path = checked_path(tree, name, use, top, kind)
    parts = least_parts(steps_of(tree, path, kind), use)
    if tree.handing():
        return parts[0], None
    return parts[0], worst_uses(tree, path, use, kind)


def near(tree, name, use, top, kind, gap):
    path = checked_path(tree, name, use, top, kind)
    check_amount(gap)
    if gap == ZERO:
        raise NoAmount("a gap of 0")
    uses = worst_uses(tree, path, use, kind)
    if tree.handing():
        crowd_out(tree, path, use, kind, gap, uses)
    return uses


def greatest(tree, name, use, top, kind):
    path = checked_path(tree, name, use, top, kind)
    bounds = path[-1:] if tree.handing() else path
    most = use
    for group in bounds:
        most = lesser(most, tree.due(group, kind))
    return most


def safe(tree, name, top, kind):
    path = checked_path(tree, name, ZERO, top, kind)
    bound = None
    ahead = ZERO
    for setting, beside, counts in steps_of(tree, path, kind):
        if counts:
            own = minus(setting, ahead) if is_less(ahead, setting) else ZERO
            bound = own if bound is None else lesser(bound, own)
        ahead = plus(ahead, beside)
    return bound


def raised(tree, name, top, kind, wanted):
    check_tree(tree)
    check_group(tree, name)
    check_top(tree, top)
    check_kind(kind)
    check_amount(wanted)
    path = path_below(tree, name, top)
    if wanted == ZERO:
        return tree
    needed = wanted
    for group, (setting, beside, counts) in zip(path, steps_of(tree, path, kind)):
        if counts and is_less(setting, needed):
            tree = tree.with_due(group, kind, needed)
        needed = plus(needed, beside)
    return tree


def never_cut(tree, top, kind):
    check_tree(tree)
    check_top(tree, top)
    check_kind(kind)
    return overfull(tree, top, kind) is None


def cut_by(tree, top, kind):
    check_tree(tree)
    check_top(tree, top)
    check_kind(kind)
    group = overfull(tree, top, kind)
    if group is None:
        return None
    uses = no_uses(tree)
    for child in tree.children(group):
        uses[first_leaf(tree, child)] = tree.due(child, kind)
    others = siblings(tree, bearer(tree, group, top), top)
    if tree.handing() and others:
        # All that is handed on to the group is less than what its children lack, if another one asks
        # for as much more as can come down from the child of the top.
        source = path_below(tree, group, top)[-1]
        uses[first_leaf(tree, others[0])] = plus(tree.due(others[0], kind), tree.due(source, kind))
    return uses


def checked_path(tree, name, use, top, kind):
    check_tree(tree)
    check_group(tree, name)
    check_amount(use)
    check_top(tree, top)
    check_kind(kind)
    return path_below(tree, name, top)


def path_below(tree, name, top):
    """The groups from this one up to a child of the top."""
    path = tree.path(name)
    if top == "":
        return path
    if top == name or top not in path:
        raise NoName("not below the top")
    return path[:path.index(top)]


def siblings(tree, name, top):
    """The other children of the group above; none of a child of the top, where they do not matter."""
    if tree.above(name) == top:
        return []
    return [child for child in tree.children(tree.above(name)) if child != name]


def steps_of(tree, path, kind):
    """The steps of a path. Where a tree hands on, an only child gets all that the group above it has."""
    top = tree.above(path[-1])
    steps = []
    for name in path:
        others = siblings(tree, name, top)
        counts = not tree.handing() or name == path[-1] or len(others) > 0
        beside = total([tree.due(other, kind) for other in others])
        steps.append((tree.due(name, kind), beside, counts))
    return steps


def path_uses(steps, use):
    """The use of each group of the path, if each sibling uses just its setting."""
    used = []
    for step in steps:
        used.append(use)
        use = plus(use, step[1])
    return used


def path_claims(steps, use):
    """The claim of each group of the path, if each sibling uses just its setting."""
    used = path_uses(steps, use)
    return [lesser(own, step[0]) if step[2] else own for own, step in zip(used, steps)]


def least_parts(steps, use):
    """The least that is protected of each group of the path."""
    claims = path_claims(steps, use)
    parts = claims[-1:]
    for at in reversed(range(len(steps) - 1)):
        claimed = plus(claims[at], steps[at][1])
        part = claims[at]
        if is_less(parts[-1], claimed):
            part = times(part, over(parts[-1], claimed))
        parts.append(part)
    parts.reverse()
    return parts


def no_uses(tree):
    return {leaf: ZERO for leaf in tree.leaves()}


def first_leaf(tree, name):
    return leaves_at(tree, name)[0]


def worst_uses(tree, path, use, kind):
    """The uses with which each sibling of a group of the path uses just its setting."""
    top = tree.above(path[-1])
    uses = no_uses(tree)
    uses[first_leaf(tree, path[0])] = use
    for name in path:
        for other in siblings(tree, name, top):
            uses[first_leaf(tree, other)] = tree.due(other, kind)
    return uses


def crowd_out(tree, path, use, kind, gap, uses):
    """Let a sibling use so much more than its setting that less than the gap is handed on along the path.

    This is needed only where the path is handed something by the worst uses, and only at the lowest
    group of these: what is handed on above it does not come through then.
    """
    steps = steps_of(tree, path, kind)
    used = path_uses(steps, use)
    claims = path_claims(steps, use)
    parts = least_parts(steps, use)
    for at in range(len(path) - 1):
        claimed = plus(claims[at], steps[at][1])
        if is_less(claims[at], used[at]) and is_less(claimed, parts[at + 1]):
            lacking = minus(used[at], claims[at])
            more = over(times(steps[-1][0], lacking), gap)
            other = siblings(tree, path[at], tree.above(path[-1]))[0]
            uses[first_leaf(tree, other)] = plus(tree.due(other, kind), more)
            return


def overfull(tree, top, kind):
    """The first group below the top whose children are promised more than its bound, or None."""
    for name in groups_below(tree, top):
        promised = total([tree.due(child, kind) for child in tree.children(name)])
        if is_less(tree.due(bearer(tree, name, top), kind), promised):
            return name
    return None


def bearer(tree, name, top):
    """The group whose setting is the bound of this one."""
    while tree.handing() and tree.above(name) != top and not siblings(tree, name, top):
        name = tree.above(name)
    return name
