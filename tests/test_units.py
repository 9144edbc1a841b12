"""Whole numbers of a common unit, on which limits, budgets and reclaims of pages are built."""

import unittest
from fractions import Fraction
from math import lcm
from random import Random

from branchdues.units import Unit, is_above, lesser_of, sum_of
from helper import told


class UnitTest(unittest.TestCase):
    def check(self, amounts):
        unit = Unit(amounts)
        bottoms = [amount[1] for amount in amounts if amount != "endless"]
        self.assertEqual(unit.whole, lcm(*bottoms))
        for amount in amounts:
            number = unit.number(amount)
            self.assertEqual(number, None if amount == "endless" else Fraction(*amount) * unit.whole)
            self.assertEqual(unit.amount(number), amount)
        numbers = [unit.number(amount) for amount in amounts if amount != "endless"]
        self.assertEqual(unit.amount(sum(numbers)), told(sum(Fraction(number, unit.whole) for number in numbers)))

    def test_short_ones(self):
        random = Random(1)
        self.check([])
        self.check(["endless", (0, 1), (7, 1)])
        for turn in range(500):
            many = random.randrange(7)
            amounts = [told(Fraction(random.randrange(60), random.randrange(1, 60))) for at in range(many)]
            self.check(amounts + ["endless"] * random.randrange(2))

    def test_long_ones_with_much_in_common(self):
        random = Random(2)
        for turn in range(100):
            shared = [random.getrandbits(1500) + 1 for many in range(random.randrange(1, 3))]
            amounts = []
            for at in range(random.randrange(1, 9)):
                bottom = random.choice(shared) * random.randrange(1, 40) // random.choice([1, 1, 2, 3])
                amounts.append(told(Fraction(random.getrandbits(1600), bottom)))
            amounts += [told(Fraction(random.getrandbits(99), random.getrandbits(99) + 1)) for at in range(3)]
            random.shuffle(amounts)
            self.check(amounts)

    def test_endless(self):
        self.assertEqual([sum_of([]), sum_of([1, 2]), sum_of([1, None])], [0, 3, None])
        self.assertEqual([lesser_of(1, 2), lesser_of(3, 2), lesser_of(None, 2), lesser_of(3, None),
                          lesser_of(None, None)], [1, 2, 2, 3, None])
        self.assertEqual([is_above(1, 2), is_above(2, 2), is_above(3, 2), is_above(None, 2), is_above(3, None),
                          is_above(None, None)], [False, False, True, True, False, False])


if __name__ == "__main__":
    unittest.main()
