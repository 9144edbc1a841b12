"""What can pass groups in a number of periods in a row, also where there are too many to go through them.

A line (each, once) stands for each * many + once in so many periods; None is an endless one. What a group lets
through by itself is for each number of periods the lowest one of some lines, so its growth never rises.
"""

from branchdues.trees import ENDLESS
from branchdues.units import lesser_of, numbers_of, tree_unit


class Spans:
    """The lines of a tree in whole units; the lines below a group are those of its children, or a leaf's tops."""

    def __init__(self, tree):
        self.tree = tree
        self.unit = tree_unit([tree], ("quota", "burst", "tops"))
        quotas = numbers_of(tree, "quota", self.unit)
        bursts = numbers_of(tree, "burst", self.unit)
        tops = numbers_of(tree, "tops", self.unit)
        self.budgets = {name: budget_line(quotas[name], bursts[name]) for name in quotas}
        self.tops = {leaf: None if tops[leaf] is None else (tops[leaf], 0) for leaf in tree.leaves()}
        self.known = {}

    def below(self, many):
        """The line below each group that counts for so many periods, and ENDLESS for as many as one likes.

        Where two lines meet it is the one that counts behind.
        """
        if many not in self.known:
            lines = dict(self.tops)
            for name in reversed(self.tree.names()):
                children = self.tree.children(name)
                if children:
                    lines[name] = joint([lower(lines[child], self.budgets[child], many) for child in children])
            self.known[many] = lines
        return self.known[many]

    def most(self, name, many):
        bound = height(self.below(many)[name], many)
        for group in self.tree.path(name):
            bound = lesser_of(bound, height(self.budgets[group], many))
        return self.unit.amount(bound)

    def binds(self, name):
        """Whether what comes from below may ever be more than a budget that is not endless."""
        budget = self.budgets[name]
        behind = self.below(ENDLESS)[name]
        if behind is None or behind[0] > budget[0]:
            return True
        ahead = self.below(1)[name]
        if is_higher(ahead, budget, 1):
            return True
        # As long as the growth ahead is above the quota, and the one behind is not, the most beyond the budget
        # lies between them, so it is sought where their lines meet.
        while ahead[0] > budget[0]:
            many = (behind[1] - ahead[1]) // (ahead[0] - behind[0])
            nearer = self.below(many)[name]
            if is_higher(nearer, budget, many):
                return True
            if nearer[0] > budget[0]:
                ahead = self.below(many + 1)[name]
                if is_higher(ahead, budget, many + 1):
                    return True
            elif nearer == behind:
                # Both lines count here, so nothing lies between them.
                return False
            else:
                behind = nearer
        return False


def budget_line(quota, burst):
    if quota is None:
        return None
    # A burst is of no use if the quota is 0: what is left stays 0.
    return (quota, burst) if quota else (0, 0)


def height(line, many):
    return None if line is None else line[0] * many + line[1]


def lower(one, other, many):
    if one is None or other is None:
        return other if one is None else one
    if many != ENDLESS and height(one, many) != height(other, many):
        return one if height(one, many) < height(other, many) else other
    return min(one, other)


def joint(lines):
    if None in lines:
        return None
    return sum([line[0] for line in lines]), sum([line[1] for line in lines])


def is_higher(line, budget, many):
    return height(line, many) > height(budget, many)
