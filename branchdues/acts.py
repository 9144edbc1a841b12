"""What the rows of a house do: each deed refuses first what cannot be done, and only then changes something."""

from branchdues.errors import Refused
from branchdues.ledgers import (
    HIGHS, MAXES, children_of, count, crowds, end_task, excess, make_room, path_of, put, reclaim, under_mark)
from branchdues.trees import is_endless

DONE = "done"
PASSED = "max"

# The dues of a new group.
NEW_DUES = {"min": 0, "low": 0, "max": "endless", "high": "endless", "number": "endless"}


def refuse(kind, wrong):
    if wrong:
        raise Refused(kind)


def refuse_no_group(house, group):
    refuse("name", group not in house.parents)


def refuse_no_task(house, task):
    refuse("name", task not in house.homes)


def is_theirs(house, who, group):
    """All is the keeper's, also the root, which is nobody's else."""
    return who == "" or any([house.owners[name] == who for name in path_of(house, group)])


def make(house, parts):
    who, name, above = parts
    refuse("name", name in house.parents or (above != "" and above not in house.parents))
    refuse("owner", not is_theirs(house, who, above))
    refuse("state", above != "" and not children_of(house, above) and is_busy(house, above))
    house.parents[name] = above
    house.settings[name] = dict(NEW_DUES)
    house.owners[name] = None
    house.marks[name] = False
    house.tallies[name] = (0, 0, 0, 0)
    house.used[name] = 0
    return DONE


def is_busy(house, group):
    """Whether there are tasks or pages at or below a group."""
    return house.used[group] > 0 or crowds(house)[group] > 0


def drop(house, parts):
    who, name = parts
    refuse_no_group(house, name)
    refuse("owner", not is_theirs(house, who, house.parents[name]))
    refuse("state", len(children_of(house, name)) > 0 or is_busy(house, name))
    del house.parents[name]
    del house.settings[name]
    del house.owners[name]
    del house.marks[name]
    del house.tallies[name]
    del house.used[name]
    return DONE


def give_due(house, parts):
    who, name, word, value = parts
    refuse_no_group(house, name)
    refuse("owner", not is_theirs(house, who, house.parents[name]))
    house.settings[name][word] = value
    return DONE


def own(house, parts):
    who, name, owner = parts
    refuse_no_group(house, name)
    refuse("owner", not is_theirs(house, who, house.parents[name]))
    house.owners[name] = owner
    return DONE


def begin(house, parts):
    who, name, group = parts
    refuse("name", name in house.homes or group not in house.parents)
    refuse("owner", not is_theirs(house, who, group))
    refuse("state", len(children_of(house, group)) > 0)
    return add_task(house, name, group)


def fork(house, parts):
    task, name = parts
    refuse("name", task not in house.homes or name in house.homes)
    refuse("state", under_mark(house, task))
    return add_task(house, name, house.homes[task])


def add_task(house, name, group):
    numbers = crowds(house)
    for above in path_of(house, group):
        most = house.settings[above]["number"]
        refuse("number", not is_endless(most) and numbers[above] >= most)
    house.homes[name] = group
    house.charged[name] = {}
    return DONE


def move(house, parts):
    who, task, group = parts
    refuse("name", task not in house.homes or group not in house.parents)
    shared = [name for name in path_of(house, group) if name in path_of(house, house.homes[task])]
    refuse("owner", not is_theirs(house, who, shared[0] if shared else ""))
    refuse("state", len(children_of(house, group)) > 0)
    house.homes[task] = group
    return DONE


def end(house, parts):
    task = parts[0]
    refuse_no_task(house, task)
    end_task(house, task)
    return DONE


def charge(house, parts):
    task, pages = parts
    refuse_no_task(house, task)
    refuse("state", under_mark(house, task))
    path = path_of(house, house.homes[task])
    for group in path:
        if excess(house, group, "max", pages) > 0:
            count(house, group, MAXES, 1)
            make_room(house, group, pages)
            if task not in house.homes or excess(house, group, "max", pages) > 0:
                return PASSED
    put(house, task, path[0], pages)
    for group in path:
        if excess(house, group, "high", 0) > 0:
            count(house, group, HIGHS, 1)
            reclaim(house, group, excess(house, group, "high", 0))
    return DONE


def free(house, parts):
    task, pages = parts
    refuse_no_task(house, task)
    group = house.homes[task]
    refuse("state", under_mark(house, task) or house.charged[task].get(group, 0) < pages)
    put(house, task, group, -pages)
    return DONE


def take_back(house, parts):
    who, group, pages = parts
    refuse_no_group(house, group)
    refuse("owner", not is_theirs(house, who, group))
    reclaim(house, group, pages)
    return DONE


def freeze(house, parts):
    return mark(house, parts, True)


def thaw(house, parts):
    return mark(house, parts, False)


def mark(house, parts, value):
    who, group = parts
    refuse_no_group(house, group)
    refuse("owner", not is_theirs(house, who, group))
    house.marks[group] = value
    return DONE


DEEDS = {
    "make": make, "drop": drop, "due": give_due, "own": own, "task": begin, "fork": fork, "move": move, "end": end,
    "charge": charge, "free": free, "reclaim": take_back, "freeze": freeze, "thaw": thaw,
}


def act(house, row):
    """Do what a row tells, and return what do returns."""
    deed = DEEDS[row[0]]
    return deed(house, row[1:])
