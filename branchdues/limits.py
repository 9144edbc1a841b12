"""What limits let by, which of them bind, and whether two trees let the same by."""

from branchdues.errors import NoLeaves
from branchdues.protections import told_uses
from branchdues.trees import check_group, check_tree, groups_below, leaves_at
from branchdues.units import Unit, is_above, lesser_of, numbers_of, sum_of, tree_unit

WORDS = ("max",)


def reach(tree):
    check_tree(tree)
    unit = tree_unit([tree], WORDS)
    limits = numbers_of(tree, "max", unit)
    room = rooms(tree, limits, tree.leaves())
    return {name: told_amount(tree, name, limits, room[name], unit) for name in tree.names()}


def lets(tree, uses):
    check_tree(tree)
    used = told_uses(tree, uses)
    unit = Unit([tree.due(name, "max") for name in tree.names()] + list(used.values()))
    limits = numbers_of(tree, "max", unit)
    numbers = {leaf: unit.number(used[leaf]) for leaf in used}
    for name in reversed(tree.names()):
        children = tree.children(name)
        if children:
            numbers[name] = sum([numbers[child] for child in children])
        if is_above(numbers[name], limits[name]):
            return False
    return True


def binding(tree):
    check_tree(tree)
    limits = numbers_of(tree, "max", tree_unit([tree], WORDS))
    room = rooms(tree, limits, tree.leaves())
    return [name for name in tree.names() if binds(tree, limits, room, name)]


def bound_by(tree, name):
    check_tree(tree)
    check_group(tree, name)
    unit = tree_unit([tree], WORDS)
    limits = numbers_of(tree, "max", unit)
    room = rooms(tree, limits, tree.leaves())
    if not binds(tree, limits, room, name):
        return None
    parts = filled(tree, room, name, limits[name])
    return {leaf: told_amount(tree, leaf, limits, parts.get(leaf, 0), unit) for leaf in tree.leaves()}


def same_limits(one, other):
    check_tree(one)
    check_tree(other)
    if sorted(one.leaves()) != sorted(other.leaves()):
        raise NoLeaves("not the same leaves")
    unit = tree_unit([one, other], WORDS)
    uses = passing_by(one, other, unit)
    return passing_by(other, one, unit) if uses is None else uses


def rooms(tree, limits, leaves):
    """The most that the limits let each group use, if only these leaves use anything."""
    busy = {leaf: True for leaf in leaves}
    room = {}
    for name in reversed(tree.names()):
        children = tree.children(name)
        if children:
            room[name] = lesser_of(limits[name], sum_of([room[child] for child in children]))
        else:
            room[name] = limits[name] if name in busy else 0
    return room


def binds(tree, limits, room, name):
    children = tree.children(name)
    below = sum_of([room[child] for child in children]) if children else None
    above = tree.path(name)[1:]
    return is_above(below, limits[name]) and all([is_above(limits[group], limits[name]) for group in above])


def filled(tree, room, top, number):
    """How a use of so much in all is parted below a top: each child in turn gets as much as its room lets it."""
    parts = {top: number}
    for name in [top] + groups_below(tree, top):
        rest = parts[name]
        for child in tree.children(name):
            parts[child] = lesser_of(room[child], rest)
            rest -= parts[child]
    return parts


def told_amount(tree, name, limits, number, unit):
    """A number of units as an amount; a divisor of long numbers need not be sought where it is just the limit."""
    return tree.due(name, "max") if number == limits[name] else unit.amount(number)


def passing_by(one, other, unit):
    """Uses that the first tree lets by, but not the other one, or None."""
    limits = numbers_of(one, "max", unit)
    bounds = numbers_of(other, "max", unit)
    for name in other.names():
        if bounds[name] is not None:
            room = rooms(one, limits, leaves_at(other, name))
            most = sum_of([room[child] for child in one.children("")])
            if is_above(most, bounds[name]):
                # Where the most is endless, whatever is more than the limit will do.
                parts = filled(one, room, "", bounds[name] + unit.whole if most is None else most)
                return {leaf: told_amount(one, leaf, limits, parts[leaf], unit) for leaf in one.leaves()}
    return None
