"""Houses: groups with tasks and whole pages, led by rows."""

from branchdues.acts import NEW_DUES, act
from branchdues.amounts import is_integer
from branchdues.errors import NoName, NoRow
from branchdues.ledgers import children_of, crowds, under_mark
from branchdues.trees import is_endless, is_name

# What stands behind the word of each row.
FORMS = {
    "make": ("who", "name", "place"),
    "drop": ("who", "name"),
    "due": ("who", "name", "word", "value"),
    "own": ("who", "name", "owner"),
    "task": ("who", "name", "name"),
    "fork": ("name", "name"),
    "move": ("who", "name", "name"),
    "end": ("name",),
    "charge": ("name", "pages"),
    "free": ("name", "pages"),
    "reclaim": ("who", "name", "pages"),
    "freeze": ("who", "name"),
    "thaw": ("who", "name"),
}


def is_row(thing):
    if not isinstance(thing, tuple) or len(thing) == 0 or not isinstance(thing[0], str):
        return False
    form = FORMS.get(thing[0])
    if form is None or len(form) != len(thing) - 1:
        return False
    if not all([is_part(kind, part) for kind, part in zip(form, thing[1:])]):
        return False
    return thing[0] != "due" or may_be(thing[3], thing[4])


def is_part(kind, thing):
    if kind in ("who", "place"):
        return is_name(thing) or (isinstance(thing, str) and thing == "")
    if kind == "owner":
        return is_name(thing) or thing is None
    if kind == "pages":
        return is_pages(thing)
    if kind == "word":
        return isinstance(thing, str) and thing in NEW_DUES
    # What is a value hangs on its word.
    return kind == "value" or is_name(thing)


def is_pages(thing):
    return is_integer(thing) and thing >= 0


def may_be(word, value):
    return is_pages(value) or (word not in ("min", "low") and is_endless(value))


class House:
    """Groups and tasks are kept in the order of making."""

    def __init__(self):
        self.parents = {}
        self.settings = {}
        self.owners = {}
        self.marks = {}
        self.tallies = {}
        # The pages at and below each group: they follow from what the tasks are charged with.
        self.used = {}
        self.homes = {}
        self.charged = {}
        self.victims = []
        self.told = []

    def __eq__(self, other):
        return (isinstance(other, House) and list(self.parents.items()) == list(other.parents.items())
                and self.settings == other.settings and self.owners == other.owners and self.marks == other.marks
                and self.tallies == other.tallies and self.homes == other.homes and self.charged == other.charged
                and self.victims == other.victims)

    def do(self, row):
        if not is_row(row):
            raise NoRow("none of the forms")
        answer = act(self, row)
        self.told.append(row)
        return answer

    def use(self, group):
        check_house_group(self, group)
        return self.used[group]

    def pages(self, task):
        check_task(self, task)
        return {group: self.charged[task][group] for group in self.parents if group in self.charged[task]}

    def tasks(self, group):
        check_house_group(self, group)
        return sorted([task for task in self.homes if self.homes[task] == group])

    def group(self, task):
        check_task(self, task)
        return self.homes[task]

    def count(self, group):
        check_house_group(self, group)
        return crowds(self)[group]

    def is_frozen(self, task):
        check_task(self, task)
        return under_mark(self, task)

    def is_marked(self, group):
        check_house_group(self, group)
        return self.marks[group]

    def due(self, group, word):
        check_house_group(self, group)
        if not isinstance(word, str) or word not in NEW_DUES:
            raise NoName("no word of a due")
        return self.settings[group][word]

    def owner(self, group):
        check_house_group(self, group)
        return self.owners[group]

    def children(self, group):
        if not isinstance(group, str) or group != "":
            check_house_group(self, group)
        return children_of(self, group)

    def events(self, group):
        check_house_group(self, group)
        return self.tallies[group]

    def ended(self):
        return list(self.victims)

    def rows(self):
        return list(self.told)

    def copy(self):
        other = House()
        other.parents = dict(self.parents)
        other.settings = {group: dict(self.settings[group]) for group in self.settings}
        other.owners = dict(self.owners)
        other.marks = dict(self.marks)
        other.tallies = dict(self.tallies)
        other.used = dict(self.used)
        other.homes = dict(self.homes)
        other.charged = {task: dict(self.charged[task]) for task in self.charged}
        other.victims = list(self.victims)
        other.told = list(self.told)
        return other


def check_house_group(house, group):
    """The root is no group here."""
    if not isinstance(group, str) or group not in house.parents:
        raise NoName("no group of the house")


def check_task(house, task):
    if not isinstance(task, str) or task not in house.homes:
        raise NoName("no task of the house")


def replayed(rows):
    if not isinstance(rows, list):
        raise NoRow("not a list")
    house = House()
    for row in rows:
        house.do(row)
    return house
