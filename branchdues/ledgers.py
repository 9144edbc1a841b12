"""The groups, tasks and pages of a house, and what becomes of pages where a limit is passed."""

from branchdues.takings import taken_in_all
from branchdues.trees import Tree, is_endless

# What a group counts, as places in its events.
MAXES = 0
HIGHS = 1
ENDS = 2
TAKEN = 3


def path_of(house, group):
    """The groups from this one up to a child of the root; none for the root."""
    path = []
    while group != "":
        path.append(group)
        group = house.parents[group]
    return path


def children_of(house, name):
    return [group for group in house.parents if house.parents[group] == name]


def crowds(house):
    """How many tasks there are at and below each group."""
    numbers = {group: 0 for group in house.parents}
    for task in house.homes:
        for group in path_of(house, house.homes[task]):
            numbers[group] += 1
    return numbers


def under_mark(house, task):
    """Whether a group at or above the task's has the mark."""
    return any([house.marks[group] for group in path_of(house, house.homes[task])])


def count(house, group, place, many):
    events = list(house.tallies[group])
    events[place] += many
    house.tallies[group] = tuple(events)


def excess(house, group, word, pages):
    """By how much the use of a group with these pages, too, is above its due of this word."""
    due = house.settings[group][word]
    if is_endless(due):
        return 0
    return max(0, house.used[group] + pages - due)


def put(house, task, group, pages):
    """Charge a task with pages; where they are less than 0, so many are taken from it."""
    shares = house.charged[task]
    shares[group] = shares.get(group, 0) + pages
    if shares[group] == 0:
        del shares[group]
    for name in path_of(house, group):
        house.used[name] += pages


def end_task(house, task):
    for group, pages in list(house.charged[task].items()):
        put(house, task, group, -pages)
    del house.charged[task]
    del house.homes[task]


def reclaim(house, group, pages):
    leaves = {group: min(pages, house.used[group])}
    if children_of(house, group):
        tree = tree_below(house, group)
        leaves = taken_in_all(tree, {leaf: house.used[leaf] for leaf in tree.leaves()}, pages)
    for leaf in leaves:
        if leaves[leaf] > 0:
            take(house, leaf, leaves[leaf])
    count(house, group, TAKEN, sum([leaves[leaf] for leaf in leaves]))


def tree_below(house, top):
    """The groups below a top, with what protects them; the children of the top stand below the root."""
    rows = []
    found = {top: ""}
    for name, above in house.parents.items():
        if above in found:
            found[name] = name
            dues = tuple([(word, (house.settings[name][word], 1)) for word in ("min", "low")])
            rows.append((name, found[above], dues))
    return Tree(rows)


def take(house, leaf, pages):
    """Take pages from the tasks of a leaf, in the order of their names."""
    for task in sorted([name for name in house.charged if leaf in house.charged[name]]):
        part = min(pages, house.charged[task][leaf])
        put(house, task, leaf, -part)
        pages -= part


def make_room(house, group, pages):
    """Reclaim below a group, and end tasks, until so many pages more do not pass its max."""
    reclaim(house, group, excess(house, group, "max", pages))
    task = greatest_task(house, group)
    while task is not None and excess(house, group, "max", pages) > 0:
        end_task(house, task)
        house.victims.append(task)
        count(house, group, ENDS, 1)
        task = greatest_task(house, group)


def greatest_task(house, group):
    """The task with the most pages at or below a group, of equal ones the first by name, or None."""
    greatest = None
    most = 0
    for task in sorted(list(house.charged)):
        pages = sum([shared for name, shared in house.charged[task].items() if group in path_of(house, name)])
        if pages > most:
            greatest, most = task, pages
    return greatest
