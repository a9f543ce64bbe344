"""Fractions (points 3 and 601)."""

import math
import random
from fractions import Fraction

from tests.cases import Case
from tests.programs import pair
from trunkweb.errors import ZeroDivisor
from trunkweb.programs import fractions

SMALL = [(n, d) for n in range(-6, 7) for d in range(1, 7) if math.gcd(n, d) == 1]
GREAT = 3 ** 400


def great_pairs(seed, count):
    """Return fractions with parts of many hundred bits."""
    dice = random.Random(seed)
    return [pair(Fraction(dice.randint(-GREAT, GREAT), dice.randint(1, GREAT))) for _ in range(count)]


class Making(Case):
    def test_small(self):
        for n in range(-12, 13):
            for d in list(range(-12, 0)) + list(range(1, 13)):
                made = fractions.fraction(n, d)
                self.assertEqual(made, pair(Fraction(n, d)))
                self.assertIs(type(made), tuple)
                self.assertTrue(fractions.is_fraction(made))

    def test_great(self):
        for n, d in great_pairs(201, 50):
            for factor in (1, -1, 6, -GREAT):
                self.assertEqual(fractions.fraction(n * factor, d * factor), (n, d))

    def test_zero(self):
        for d in (1, -1, 7, -GREAT):
            self.assertEqual(fractions.fraction(0, d), (0, 1))
        for n in (0, 1, -5, GREAT, -GREAT):
            self.fails(ZeroDivisor, n, fractions.fraction, n, 0)

    def test_is_fraction(self):
        for n in range(-8, 9):
            for d in range(-8, 9):
                self.assertIs(fractions.is_fraction((n, d)), d >= 1 and math.gcd(n, d) == 1)
        for good in great_pairs(202, 20):
            self.assertIs(fractions.is_fraction(good), True)
            self.assertIs(fractions.is_fraction((good[0] * 3, good[1] * 3)), False)
            self.assertIs(fractions.is_fraction((-good[0], -good[1])), False)
        for bad in ((0, 2), (0, 0), (1, 0), (0, -1), (2, 4), (GREAT, GREAT)):
            self.assertIs(fractions.is_fraction(bad), False)

    def test_of_the_interface(self):
        told = fractions.fraction(4, -6), fractions.plus((1, 2), (1, 3)), fractions.ceiling((-7, 2))
        self.assertEqual(told, ((-2, 3), (5, 6), -3))


class Reckoning(Case):
    def both(self, first, second):
        """Hold all that is told of two fractions against Python's own."""
        a, b = Fraction(*first), Fraction(*second)
        self.assertEqual(fractions.plus(first, second), pair(a + b))
        self.assertEqual(fractions.minus(first, second), pair(a - b))
        self.assertEqual(fractions.times(first, second), pair(a * b))
        self.assertIs(fractions.is_less(first, second), a < b)
        if b:
            self.assertEqual(fractions.over(first, second), pair(a / b))

    def test_small(self):
        for first in SMALL:
            for second in SMALL:
                self.both(first, second)

    def test_great(self):
        some = great_pairs(203, 12) + [(0, 1), (1, 1), (-1, GREAT)]
        for first in some:
            for second in some:
                self.both(first, second)

    def test_over_zero(self):
        for first in ((0, 1), (3, 4), (-5, 2), (GREAT, 7)):
            self.fails(ZeroDivisor, first[0], fractions.over, first, (0, 1))

    def test_floor_and_ceiling(self):
        for some in SMALL + great_pairs(204, 30) + [(GREAT, 1), (-GREAT, 1), (GREAT - 1, GREAT), (1 - GREAT, GREAT)]:
            self.assertEqual(fractions.floor(some), math.floor(Fraction(*some)))
            self.assertEqual(fractions.ceiling(some), math.ceil(Fraction(*some)))

    def test_added(self):
        dice = random.Random(205)
        self.assertEqual(fractions.added([]), (0, 1))
        self.assertEqual(fractions.added([(1, 2), (-1, 2)]), (0, 1))
        for many in (1, 2, 3, 50, 200):
            some = [dice.choice(SMALL) for _ in range(many)]
            self.assertEqual(self.steady(fractions.added, some), pair(sum(Fraction(*one) for one in some)))
        some = great_pairs(206, 20)
        self.assertEqual(self.steady(fractions.added, some), pair(sum(Fraction(*one) for one in some)))
