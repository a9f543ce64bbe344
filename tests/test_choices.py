"""The told choice of at most a number of sites (point 807)."""

import time
import unittest
from fractions import Fraction

from tests.cases import Case
from tests.places import changed_trees, great_order, is_fair, random_orders
from trunkweb.errors import BadSet, OutOfRange
from trunkweb.networks.network import Network
from trunkweb.places.choices import check_choice, choice_cases, choice_cost, told_choice
from trunkweb.places.order import Order

LINE = Network(4, [(0, 1, 1), (1, 2, 2), (2, 3, 4)])


def shows(told, most, cost, case, tree):
    """Point 807, word by word; the case is a dict of open (True) and closed sites (False)."""
    many_open = sum(case.values())
    if tree[0] == "none":
        return many_open > most or len(case) == len(told.openings) and not many_open
    if tree[0] == "site":
        _, site, one, two = tree
        if site not in range(len(told.openings)) or site in case:
            return False
        return (shows(told, most, cost, {**case, site: True}, one)
                and shows(told, most, cost, {**case, site: False}, two))
    _, charge, dual = tree
    charge = Fraction(*charge)
    if charge < 0 or not is_fair(told, [charge] * len(told.openings), case, dual):
        return False
    return sum(Fraction(*amount) for amount in dual) - charge * (most - many_open) >= cost


def best_of(told, most):
    """The told choice, by trying all sets."""
    return min(told.sets(most), key=lambda numbers: (told.ways_to(numbers), len(numbers), numbers))


class Choices(Case):
    def test_against_all_sets(self):
        for told in random_orders(451, 150):
            for most in range(1, len(told.openings) + 3):
                best = best_of(told, most)
                self.assertEqual(self.steady(told_choice, told.order, most), best)
                self.assertEqual(self.steady(choice_cost, told.order, best), told.ways_to(best))
                tree = self.steady(choice_cases, told.order, most)
                self.assertTrue(shows(told, most, told.ways_to(best), {}, tree))
                self.assertIs(self.steady(check_choice, told.order, most, best, tree), True)

    def test_a_line(self):
        order = Order(LINE, [(0, 9), (1, 0), (2, 5), (3, 0)], [0, 1, 1, 2, 3])
        # Opening prices play no part.
        self.assertEqual([choice_cost(order, [site]) for site in range(4)], [12, 9, 11, 23])
        self.assertEqual([told_choice(order, most) for most in (1, 2, 3, 4, 5, 10 ** 9)],
                         [[1], [1, 3], [1, 2, 3], [0, 1, 2, 3], [0, 1, 2, 3], [0, 1, 2, 3]])

    def test_ties(self):
        order = Order(LINE, [(3, 1), (0, 1), (0, 1), (1, 1)], [0, 0])
        self.assertEqual([told_choice(order, most) for most in (1, 2, 4)], [[1]] * 3)
        order = Order(LINE, [(1, 0), (0, 0), (2, 0)], [0, 1])
        self.assertEqual([told_choice(order, most) for most in (1, 2, 3)], [[0], [0, 1], [0, 1]])

    def test_without_clients(self):
        order = Order(LINE, [(0, 3), (1, 2)], [])
        for most in (1, 2, 3):
            self.assertEqual(told_choice(order, most), [0])
            self.assertIs(check_choice(order, most, [0], choice_cases(order, most)), True)
            self.assertIs(check_choice(order, most, [1], ("bound", (0, 1), [])), True)
            self.assertIs(check_choice(order, most, [0, 1], ("bound", (0, 1), [])), most >= 2)

    def test_ten_sites_and_twenty_clients(self):
        before = time.perf_counter()
        for seed in (453, 454):
            told = great_order(seed)
            for most in range(1, 12):
                best = best_of(told, most)
                self.assertEqual(told_choice(told.order, most), best)
                self.assertIs(check_choice(told.order, most, best, choice_cases(told.order, most)), True)
        self.assertLess(time.perf_counter() - before, 30)

    def test_numbers_that_are_too_small(self):
        order = Order(LINE, [(0, 3), (1, 2)], [1])
        for most in (0, -1, -10 ** 20):
            self.fails(OutOfRange, most, told_choice, order, most)
            self.fails(OutOfRange, most, choice_cases, order, most)
            self.fails(OutOfRange, most, check_choice, order, most, [5, 5], ("none",))

    def test_sets_that_are_none(self):
        order = Order(LINE, [(0, 3), (1, 2), (2, 0)], [1])
        for numbers in ([], [1, 0], [0, 0], [-1], [3], [0, 3], [10 ** 20]):
            self.fails(BadSet, 0, choice_cost, order, numbers)
        self.fails(BadSet, 0, choice_cost, Order(LINE, [(0, 3)], []), [])


class Checks(Case):
    def test_changed_trees(self):
        counts = [0, 0]
        for told in random_orders(455, 60, sites=(1, 3), clients=(0, 3)):
            for most in range(1, len(told.openings) + 1):
                best = told_choice(told.order, most)
                for tree in changed_trees(choice_cases(told.order, most), len(told.openings)):
                    answer = self.steady(check_choice, told.order, most, best, tree)
                    self.assertIs(answer, shows(told, most, told.ways_to(best), {}, tree))
                    counts[answer] += 1
        self.assertGreater(min(counts), 200)

    def test_charges(self):
        counts = [0, 0]
        for told in random_orders(456, 80, sites=(1, 4), clients=(1, 4)):
            for most in range(1, len(told.openings) + 1):
                for numbers in told.sets(most):
                    for charge in (-1, 0, Fraction(1, 2), 1, 3):
                        dual = [(min(row) + max(0, int(charge)) // 2, 1) for row in told.ways]
                        pair = (Fraction(charge).numerator, Fraction(charge).denominator)
                        tree = ("bound", pair, dual)
                        answer = check_choice(told.order, most, numbers, tree)
                        self.assertIs(answer, shows(told, most, told.ways_to(numbers), {}, tree))
                        counts[answer] += 1
        self.assertGreater(min(counts), 200)

    def test_only_least_choices_are_shown(self):
        for told in random_orders(457, 60, sites=(1, 4), clients=(0, 4)):
            for most in range(1, len(told.openings) + 1):
                tree = choice_cases(told.order, most)
                least = told.ways_to(best_of(told, most))
                for numbers in told.sets():
                    good = len(numbers) <= most and told.ways_to(numbers) == least
                    self.assertIs(check_choice(told.order, most, numbers, tree), good)

    def test_a_charge_above_0(self):
        # Two pairs of clients, far from each other; one site for each pair, and one between.
        order = Order(Network(5, [(0, 2, 4), (2, 1, 4), (0, 3, 0), (1, 4, 0)]), [(0, 0), (1, 0), (2, 0)], [0, 3, 1, 4])
        self.assertEqual(told_choice(order, 1), [0])
        self.assertEqual([choice_cost(order, [site]) for site in range(3)], [16, 16, 16])
        self.assertEqual(choice_cost(order, [0, 1]), 0)
        # With the charge 16 each client may go up to 8: 32 - 16 * 1.
        self.assertIs(check_choice(order, 1, [0], ("bound", (16, 1), [(8, 1)] * 4)), True)
        self.assertIs(check_choice(order, 1, [2], ("bound", (16, 1), [(8, 1)] * 4)), True)
        self.assertIs(check_choice(order, 1, [0], ("bound", (14, 1), [(15, 2)] * 4)), False)
        self.assertIs(check_choice(order, 1, [0], ("bound", (31, 2), [(8, 1)] * 4)), False)
        self.assertIs(check_choice(order, 2, [0], ("bound", (16, 1), [(8, 1)] * 4)), False)
        self.assertIs(check_choice(order, 2, [0, 1], ("bound", (16, 1), [(8, 1)] * 4)), True)
        self.assertIs(check_choice(order, 2, [0, 1], ("bound", (0, 1), [(0, 1)] * 4)), True)
        self.assertIs(check_choice(order, 2, [0, 1], ("bound", (-1, 1), [(0, 1)] * 4)), False)
        self.assertIs(check_choice(order, 1, [0, 1], ("bound", (0, 1), [(0, 1)] * 4)), False)

    def test_none_with_too_many_open_sites(self):
        order = Order(LINE, [(0, 0), (1, 0)], [0, 1])
        both = ("site", 1, ("none",), ("bound", (0, 1), [(0, 1), (1, 1)]))
        tree = ("site", 0, both, ("site", 1, ("bound", (0, 1), [(1, 1), (0, 1)]), ("none",)))
        self.assertIs(check_choice(order, 1, [0], tree), True)
        self.assertIs(check_choice(order, 1, [1], tree), True)
        self.assertIs(check_choice(order, 2, [0], tree), False)
        self.assertIs(check_choice(order, 2, [0, 1], tree), False)
        self.assertIs(check_choice(order, 1, [0], ("site", 0, ("none",), tree[3])), False)

    def test_the_charge_counts_for_sites_that_may_still_be_opened(self):
        order = Order(LINE, [(0, 0), (1, 0)], [1])
        # With the site 0 open, and at most 1 site, the charge is paid for none.
        one = ("bound", (7, 1), [(1, 1)])
        two = ("bound", (0, 1), [(0, 1)])
        self.assertIs(check_choice(order, 1, [1], ("site", 0, one, two)), True)
        self.assertIs(check_choice(order, 1, [0], ("site", 0, one, two)), False)
        # With none open it is paid once; with two that may be opened, twice.
        self.assertIs(check_choice(order, 1, [1], ("bound", (7, 1), [(7, 1)])), True)
        self.assertIs(check_choice(order, 1, [1], ("bound", (7, 1), [(8, 1)])), False)
        self.assertIs(check_choice(order, 2, [1], ("bound", (7, 1), [(7, 1)])), False)
        self.assertIs(check_choice(order, 1, [1], ("bound", (7, 1), [(6, 1)])), False)

    def test_charges_below_0(self):
        # Where no site is free, nothing but its sign speaks against a charge.
        order = Order(LINE, [(0, 0)], [1])
        two = ("none",)
        for charge, told in (((0, 1), True), ((1, 9), False), ((-1, 9), False), ((-1, 1), False)):
            self.assertIs(check_choice(order, 2, [0], ("site", 0, ("bound", charge, [(1, 1)]), two)), told)
            self.assertIs(check_choice(order, 1, [0], ("site", 0, ("bound", charge, [(1, 1)]), two)), charge[0] >= 0)
        self.assertIs(check_choice(order, 2, [0], ("site", 0, ("bound", (-1, 1), [(0, 1)]), two)), False)

    def test_lists_that_are_no_choices(self):
        order = Order(LINE, [(0, 0), (1, 0), (1, 0)], [0, 1])
        tree = choice_cases(order, 2)
        self.assertIs(check_choice(order, 2, [0, 1], tree), True)
        for numbers in ([], [1, 0], [0, 0], [0, 3], [-1, 0], [3], [-2], [0, 1, 2]):
            self.assertIs(check_choice(order, 2, numbers, tree), False)


if __name__ == "__main__":
    unittest.main()
