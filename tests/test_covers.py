"""Covers by sets (points 706 to 708)."""

import random
import time
import unittest
from fractions import Fraction
from itertools import combinations

from tests.cases import Case
from tests.programs import MILLION, changed_values, pair, pairs
from trunkweb.cases.covers import check_shares, cover_bound, cover_factor, cover_program, quick_cover
from trunkweb.cases.search import first_best
from trunkweb.errors import BadPrice, BadSet, OutOfRange, TooMany
from trunkweb.programs.simplex import solve


def some_sets(seed, count, size=(1, 6), many=(1, 6), prices=(0, 1, 4, 9)):
    """Pairs of a size and sets; few prices make many ties."""
    dice = random.Random(seed)
    for _ in range(count):
        n = dice.randint(*size)
        most = dice.choice(prices)
        thick = dice.choice((0.3, 0.5, 0.8))
        yield n, [([e for e in range(n) if dice.random() < thick], dice.randint(0, most))
                  for _ in range(dice.randint(*many))]


def harmonic(many):
    """1 + 1 / 2 + .. + 1 / many."""
    return sum((Fraction(1, k) for k in range(1, many + 1)), Fraction(0))


def quick(size, sets):
    """Point 707, word by word."""
    left = set(range(size))
    taken, shares = [], [None] * size
    while left:
        rates = [(Fraction(price, len(left & set(members))), k) for k, (members, price) in enumerate(sets)
                 if left & set(members)]
        if not rates:
            return None
        rate, k = min(rates)
        taken.append(k)
        for member in left & set(sets[k][0]):
            shares[member] = pair(rate)
        left -= set(sets[k][0])
    return taken, sum(sets[k][1] for k in taken), shares


def shares_are_good(size, sets, taken, shares):
    """Point 708, word by word."""
    if any(k not in range(len(sets)) for k in taken) or len(set(taken)) < len(taken) or len(shares) != size:
        return False
    if set().union(*[sets[k][0] for k in taken]) != set(range(size)):
        return False
    values = [Fraction(*share) for share in shares]
    if any(value < 0 for value in values):
        return False
    if any(sum(values[e] for e in members) > harmonic(len(members)) * price for members, price in sets):
        return False
    return sum(values) == sum(sets[k][1] for k in taken)


def covers(size, sets):
    """All covers, as tuples of numbers of sets."""
    for many in range(len(sets) + 1):
        for some in combinations(range(len(sets)), many):
            if set().union(*[sets[k][0] for k in some]) == set(range(size)):
                yield some


class Programs(Case):
    def test_the_rows(self):
        program = cover_program(3, [([0, 2], 5), ([], 7), ([1, 2], 0)])
        self.assertEqual(program.prices(), [5, 7, 0])
        self.assertEqual(program.rows(), [([1, 0, 0], "least", 1), ([0, 0, 1], "least", 1), ([1, 0, 1], "least", 1)])

    def test_against_the_point(self):
        for size, sets in some_sets(411, 150):
            program = self.steady(cover_program, size, sets)
            self.assertEqual(program.prices(), [price for _, price in sets])
            rows = [([1 if e in members else 0 for members, _ in sets], "least", 1) for e in range(size)]
            self.assertEqual(program.rows(), rows)

    def test_an_element_that_no_set_has(self):
        self.assertEqual(cover_program(2, [([0], 1)]).rows(), [([1], "least", 1), ([0], "least", 1)])

    def test_the_least_list_is_the_least_cover(self):
        counts = [0, 0]
        for size, sets in some_sets(412, 150):
            least = min([sum(sets[k][1] for k in some) for some in covers(size, sets)], default=None)
            answer = first_best(cover_program(size, sets))
            counts[least is None] += 1
            self.assertEqual(answer[1] if answer[0] == "list" else None, least)
        self.assertGreater(min(counts), 30)


class QuickCovers(Case):
    def test_against_the_point(self):
        counts = [0, 0]
        for size, sets in some_sets(413, 800):
            told = self.steady(quick_cover, size, sets)
            self.assertEqual(told, quick(size, sets))
            counts[told is None] += 1
        self.assertGreater(min(counts), 100)

    def test_ties(self):
        self.assertEqual(quick_cover(2, [([0, 1], 2), ([0], 1), ([1], 1)]), ([0], 2, [(1, 1), (1, 1)]))
        self.assertEqual(quick_cover(2, [([0], 1), ([0, 1], 2), ([1], 1)]), ([0, 2], 2, [(1, 1), (1, 1)]))
        self.assertEqual(quick_cover(2, [([1], 1), ([0], 1), ([0, 1], 2)]), ([0, 1], 2, [(1, 1), (1, 1)]))
        self.assertEqual(quick_cover(1, [([0], 3), ([0], 3)]), ([0], 3, [(3, 1)]))

    def test_exact_shares(self):
        sets = [([0, 1, 2], 2), ([2, 3], 1), ([3], 1)]
        self.assertEqual(quick_cover(4, sets), ([1, 0], 3, [(1, 1), (1, 1), (1, 2), (1, 2)]))
        self.assertEqual(quick_cover(3, [([0, 1, 2], 2)]), ([0], 2, [(2, 3)] * 3))
        # 333333 / 3 is less than 333334 / 3, and both are nearly the same.
        sets = [([0, 1, 2], 333334), ([0, 1, 2], 333333)]
        self.assertEqual(quick_cover(3, sets), ([1], 333333, [(111111, 1)] * 3))

    def test_prices_of_0_and_sets_without_members(self):
        sets = [([], 0), ([0], 0), ([0], 0), ([1], 3), ([], 5)]
        self.assertEqual(quick_cover(2, sets), ([1, 3], 3, [(0, 1), (3, 1)]))
        # What covers nothing anew is not taken, even if it costs nothing.
        self.assertEqual(quick_cover(2, [([0, 1], 0), ([0], 0), ([1], 0)]), ([0], 0, [(0, 1), (0, 1)]))

    def test_no_cover(self):
        self.assertIsNone(quick_cover(2, [([0], 1)]))
        self.assertIsNone(quick_cover(1, [([], 1), ([], 0)]))

    def test_the_bounds(self):
        for size, sets in some_sets(414, 250):
            told = quick_cover(size, sets)
            if told is not None:
                taken, price, shares = told
                factor = Fraction(*cover_factor(size, sets))
                bound = Fraction(*cover_bound(size, sets, shares))
                least = min(sum(sets[k][1] for k in some) for some in covers(size, sets))
                self.assertEqual(sum(Fraction(*share) for share in shares), price)
                self.assertTrue(check_shares(size, sets, taken, shares))
                self.assertTrue(bound <= least <= price <= factor * least)
                kind, value = solve(cover_program(size, sets))[:2]
                self.assertEqual(kind, "least")
                self.assertLessEqual(bound, Fraction(*value))


class Factors(Case):
    def test_values(self):
        self.assertEqual(cover_factor(3, [([], 5), ([], 0)]), (0, 1))
        self.assertEqual(cover_factor(3, [([], 5), ([1], 0)]), (1, 1))
        self.assertEqual(cover_factor(3, [([0, 2], 5), ([1], 0)]), (3, 2))
        self.assertEqual(cover_factor(4, [([1], 0), ([0, 1, 2, 3], 5), ([0, 1], 9)]), (25, 12))
        self.assertEqual(cover_factor(40, [(list(range(40)), 5)]), pair(harmonic(40)))

    def test_bounds(self):
        sets = [([0, 2], 5), ([1], 0)]
        self.assertEqual(cover_bound(3, sets, [(1, 2), (1, 3), (-1, 6)]), (4, 9))
        self.assertEqual(cover_bound(3, sets, [(0, 1)] * 3), (0, 1))
        self.assertEqual(cover_bound(3, [([], 5)], [(1, 1)] * 3), (0, 1))
        for size, sets in some_sets(415, 60):
            shares = pairs(Fraction(k, 7) for k in range(size))
            factor = harmonic(max(len(members) for members, _ in sets))
            told = sum(Fraction(*share) for share in shares) / factor if factor else 0
            self.assertEqual(self.steady(cover_bound, size, sets, shares), pair(told))
            self.assertEqual(self.steady(cover_factor, size, sets), pair(factor))


class Shares(Case):
    def test_changed_shares(self):
        counts = [0, 0]
        for size, sets in some_sets(416, 150):
            told = quick_cover(size, sets)
            if told is not None:
                for shares in changed_values(told[2]):
                    answer = self.steady(check_shares, size, sets, told[0], shares)
                    self.assertIs(answer, shares_are_good(size, sets, told[0], shares))
                    counts[answer] += 1
        self.assertGreater(counts[0], 500)

    def test_moved_shares(self):
        dice = random.Random(417)
        counts = [0, 0]
        for size, sets in some_sets(418, 400, (2, 5), (1, 5)):
            told = quick_cover(size, sets)
            if told is not None:
                values = [Fraction(*share) for share in told[2]]
                one, two = dice.sample(range(size), 2)
                amount = Fraction(dice.randint(0, 8), 4)
                values[one] += amount
                values[two] -= amount
                answer = check_shares(size, sets, told[0], pairs(values))
                self.assertIs(answer, shares_are_good(size, sets, told[0], pairs(values)))
                counts[answer] += 1
        self.assertGreater(min(counts), 50)

    def test_changed_sets(self):
        for size, sets in some_sets(419, 150):
            told = quick_cover(size, sets)
            if told is not None:
                taken, _, shares = told
                for other in [taken[:-1], taken[::-1], taken + [taken[0]], taken + [-1], taken + [len(sets)], [],
                              taken[1:] + [taken[0] - len(sets)]] + [taken + [k] for k in range(len(sets))]:
                    answer = self.steady(check_shares, size, sets, other, shares)
                    self.assertIs(answer, shares_are_good(size, sets, other, shares))

    def test_each_condition_alone(self):
        sets = [([0, 1], 2), ([1, 2], 2), ([2], 1)]
        good = [(1, 1), (1, 1), (1, 1)]
        self.assertIs(check_shares(3, sets, [0, 2], good), True)
        self.assertIs(check_shares(3, sets, [2, 0], good), True)
        # The members of the first set have together 3 / 2 times its price, the most that they may have.
        self.assertIs(check_shares(3, sets, [0, 2], [(3, 1), (0, 1), (0, 1)]), True)
        self.assertIs(check_shares(3, sets, [0, 2], [(2, 1), (1, 1), (0, 1)]), True)
        self.assertIs(check_shares(3, [([0, 1], 1), ([0, 1, 2], 3)], [1], [(2, 1), (0, 1), (1, 1)]), False)
        self.assertIs(check_shares(3, sets, [0, 2], [(0, 1), (1, 1), (2, 1)]), False)
        self.assertIs(check_shares(3, sets, [0, 2], [(4, 1), (-1, 1), (0, 1)]), False)
        self.assertIs(check_shares(3, sets, [0, 2], [(1, 1), (1, 1), (1, 2)]), False)
        self.assertIs(check_shares(3, sets, [0, 2], [(1, 1), (1, 1), (9, 8)]), False)
        self.assertIs(check_shares(3, sets, [1, 2], good), False)
        self.assertIs(check_shares(3, sets, [0, 1], good), False)
        self.assertIs(check_shares(3, sets, [0, 2, 2], good + [(1, 1)]), False)
        for shares in ([], good[:2], good + [(0, 1)]):
            self.assertIs(check_shares(3, sets, [0, 2], shares), False)

    def test_sets_without_members_and_price_0(self):
        sets = [([0], 0), ([], 3)]
        self.assertIs(check_shares(1, sets, [0], [(0, 1)]), True)
        self.assertIs(check_shares(1, sets, [0, 1], [(0, 1)]), False)
        self.assertIs(check_shares(1, sets, [0, 1], [(3, 1)]), False)
        self.assertIs(check_shares(1, [([0], 3), ([], 3)], [0], [(3, 1)]), True)

    def test_a_set_named_twice(self):
        self.assertIs(check_shares(1, [([0], 2)], [0, 0], [(4, 1)]), False)
        self.assertIs(check_shares(1, [([0], 0)], [0, 0], [(0, 1)]), False)
        self.assertIs(check_shares(1, [([0], 0)], [0], [(0, 1)]), True)


class Errors(Case):
    CALLS = ((cover_program,), (quick_cover,), (cover_factor,), (check_shares, [0], [(0, 1)]),
             (cover_bound, [(0, 1)]))

    def fails_all(self, error, at, size, sets):
        for call, *more in self.CALLS:
            self.fails(error, at, call, size, sets, *more)

    def test_sizes(self):
        for size in (0, -1, 41, 10 ** 20):
            self.fails_all(OutOfRange, size, size, [([0], 1)])
            self.fails_all(OutOfRange, size, size, [])

    def test_numbers_of_sets(self):
        self.fails_all(TooMany, 0, 3, [])
        self.fails_all(TooMany, 41, 3, [([0], 1)] * 41)
        self.fails_all(TooMany, 50, 3, [([7], -1)] * 50)

    def test_sets(self):
        for members in ([0, 0], [1, 0], [3], [-1], [0, 3], [2, 1], [0, 1, 1]):
            self.fails_all(BadSet, 1, 3, [([0], 1), (members, 1), ([5], -1)])
            # In one set its members come first.
            self.fails_all(BadSet, 0, 3, [(members, -1), ([0], 1)])
        for price in (-1, MILLION + 1):
            self.fails_all(BadPrice, 1, 3, [([0], 1), ([1], price), ([9], 1)])
            self.fails_all(BadPrice, 0, 3, [([], price), ([9], 1)])

    def test_the_edges_are_good(self):
        self.assertEqual(quick_cover(1, [([0], MILLION)]), ([0], MILLION, [(MILLION, 1)]))
        sets = [([k], 1) for k in range(40)]
        self.assertEqual(quick_cover(40, sets), (list(range(40)), 40, [(1, 1)] * 40))

    def test_forty(self):
        for size, sets in some_sets(420, 6, (40, 40), (40, 40), (9, MILLION)):
            before = time.perf_counter()
            told = quick_cover(size, sets)
            self.assertEqual(told, quick(size, sets))
            if told is not None:
                self.assertIs(check_shares(size, sets, told[0], told[2]), True)
                bound = Fraction(*cover_bound(size, sets, told[2]))
                self.assertLessEqual(bound, Fraction(*solve(cover_program(size, sets))[1]))
            self.assertLess(time.perf_counter() - before, 10)


if __name__ == "__main__":
    unittest.main()
