"""Amounts as whole numbers of a unit that all of them are multiples of.

Sums and comparisons need no divisors then, which matters where amounts are long. None stands for endless.
"""

from branchdues.amounts import divisor
from branchdues.trees import ENDLESS, is_endless


class Unit:
    """The greatest unit of some amounts: whole of it make 1. Endless amounts do not matter.

    The long bottoms of told amounts mostly have nearly all in common. This is kept apart as shared, so that most
    divisors and quotients are those of short numbers; whole is shared * others.
    """

    def __init__(self, amounts):
        bottoms = sorted([amount[1] for amount in amounts if not is_endless(amount)], reverse=True)
        self.shared = bottoms[0] if bottoms else 1
        self.others = 1
        for bottom in bottoms:
            self.divide(bottom)
        self.whole = self.shared * self.others

    def divide(self, bottom):
        """Make the unit so much smaller that this bottom divides the whole."""
        if bottom % self.shared:
            same = divisor(self.shared, bottom)
            if 2 * same.bit_length() > self.shared.bit_length():
                self.others *= self.shared // same
                self.shared = same
        if bottom % self.shared:
            rest = self.shared * self.others % bottom
        else:
            bottom //= self.shared
            rest = self.others % bottom
        if rest:
            self.others *= bottom // divisor(bottom, rest)

    def number(self, amount):
        if is_endless(amount):
            return None
        top, bottom = amount
        if bottom % self.shared:
            return top * (self.whole // bottom)
        return top * (self.others // (bottom // self.shared))

    def amount(self, number):
        if number is None:
            return ENDLESS
        same = divisor(number, self.whole)
        return number // same, self.whole // same


def tree_unit(trees, words):
    """The unit of all dues of these words."""
    return Unit([tree.due(name, word) for tree in trees for name in tree.names() for word in words])


def numbers_of(tree, word, unit):
    return {name: unit.number(tree.due(name, word)) for name in tree.names()}


def sum_of(numbers):
    return None if None in numbers else sum(numbers)


def lesser_of(one, other):
    if one is None:
        return other
    return one if other is None else min(one, other)


def is_above(number, bound):
    if bound is None:
        return False
    return number is None or number > bound
