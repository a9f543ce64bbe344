"""The told opening, and trees of cases (points 802, 805 and 806)."""

import random
import time
import unittest
from fractions import Fraction

from tests.cases import Case
from tests.places import changed_trees, great_order, is_fair, random_orders
from tests.programs import MILLION
from trunkweb.networks.network import Network
from trunkweb.places.cases import check_opening, opening_cases, told_opening
from trunkweb.places.order import Order

LINE = Network(4, [(0, 1, 1), (1, 2, 2), (2, 3, 4)])


def shows(told, cost, case, tree):
    """Point 806, word by word; the case is a dict of open (True) and closed sites (False)."""
    if tree[0] == "none":
        return len(case) == len(told.openings) and not any(case.values())
    if tree[0] == "site":
        _, site, one, two = tree
        if site not in range(len(told.openings)) or site in case:
            return False
        return shows(told, cost, {**case, site: True}, one) and shows(told, cost, {**case, site: False}, two)
    if not is_fair(told, told.openings, case, tree[1]):
        return False
    bound = sum(Fraction(*amount) for amount in tree[1])
    return bound + sum(told.openings[site] for site, state in case.items() if state) >= cost


def best_of(told):
    """Point 802, word by word."""
    return min(told.sets(), key=lambda numbers: (told.cost(numbers), len(numbers), numbers))


class Openings(Case):
    def test_against_all_sets(self):
        for told in random_orders(441, 300):
            best = best_of(told)
            self.assertEqual(self.steady(told_opening, told.order), best)
            tree = self.steady(opening_cases, told.order)
            self.assertTrue(shows(told, told.cost(best), {}, tree))
            self.assertIs(self.steady(check_opening, told.order, best, tree), True)

    def test_more_sites(self):
        for told in random_orders(442, 25, size=(5, 9), sites=(6, 8), clients=(3, 12)):
            best = best_of(told)
            self.assertEqual(told_opening(told.order), best)
            self.assertIs(check_opening(told.order, best, opening_cases(told.order)), True)

    def test_ties(self):
        # Opening one or both costs 2; the fewest sites come first, then the first of them.
        order = Order(LINE, [(0, 1), (1, 1)], [0, 1])
        self.assertEqual(told_opening(order), [0])
        order = Order(LINE, [(3, 9), (0, 0), (1, 0), (0, 0)], [0, 0])
        self.assertEqual(told_opening(order), [1])
        order = Order(LINE, [(2, 4), (1, 3), (1, 3), (0, 1), (2, 3)], [1, 2])
        # Costs 5: the sites 1, 2 and 4 alone; the site 3 costs 1 + 1 + 3.
        self.assertEqual(told_opening(order), [1])

    def test_without_clients(self):
        order = Order(LINE, [(0, 3), (1, 2), (2, 2)], [])
        self.assertEqual(told_opening(order), [1])
        self.assertIs(check_opening(order, [1], opening_cases(order)), True)
        self.assertIs(check_opening(order, [2], opening_cases(order)), True)
        self.assertIs(check_opening(order, [0], opening_cases(order)), False)
        free = Order(LINE, [(0, 3), (1, 0)], [])
        self.assertEqual(told_opening(free), [1])
        self.assertIs(check_opening(free, [1], ("bound", [])), True)

    def test_one_site(self):
        order = Order(LINE, [(0, 3)], [1, 2])
        self.assertEqual(told_opening(order), [0])
        self.assertIs(check_opening(order, [0], opening_cases(order)), True)
        self.assertIs(check_opening(order, [0], ("site", 0, ("bound", [(1, 1), (3, 1)]), ("none",))), True)

    def test_ten_sites_and_twenty_clients(self):
        before = time.perf_counter()
        for seed, opening in ((443, 300), (444, 3000), (445, 20000), (446, 0)):
            told = great_order(seed, 1000, opening)
            best = best_of(told)
            self.assertEqual(told_opening(told.order), best)
            self.assertIs(check_opening(told.order, best, opening_cases(told.order)), True)
        self.assertLess(time.perf_counter() - before, 30)

    def test_bounds_that_are_far_from_the_cost(self):
        # Each client is as near to each second site; openings cost much: the best dual is a fraction.
        edges = [(k, 7 + j, 2) for k in range(7) for j in range(7) if (k - j) % 7 in (1, 2, 4)]
        order = Order(Network(14, edges), [(k, 3) for k in range(7)], list(range(7, 14)))
        best = told_opening(order)
        tree = opening_cases(order)
        self.assertEqual(tree[0], "site")
        self.assertIs(check_opening(order, best, tree), True)


class Checks(Case):
    def test_changed_trees(self):
        counts = [0, 0]
        for told in random_orders(447, 60, sites=(1, 3), clients=(0, 3)):
            best = told_opening(told.order)
            for tree in changed_trees(opening_cases(told.order), len(told.openings)):
                answer = self.steady(check_opening, told.order, best, tree)
                self.assertIs(answer, shows(told, told.cost(best), {}, tree))
                counts[answer] += 1
        self.assertGreater(min(counts), 80)

    def test_trees_made_by_hand(self):
        dice = random.Random(448)
        counts = [0, 0]
        for told in random_orders(449, 200, sites=(1, 3), clients=(0, 3)):
            many = len(told.openings)

            def some_tree(case, deep):
                kind = dice.random()
                free = [site for site in range(many) if site not in case]
                if deep and free and kind < 0.6:
                    site = dice.choice(free)
                    return ("site", site, some_tree({**case, site: True}, deep - 1),
                            some_tree({**case, site: False}, deep - 1))
                left = [site for site in range(many) if case.get(site) is not False]
                if not left:
                    return ("none",)
                return ("bound", [(min(row[site] for site in left), 1) for row in told.ways])

            numbers = dice.choice(told.sets())
            tree = some_tree({}, 4)
            answer = check_opening(told.order, numbers, tree)
            self.assertIs(answer, shows(told, told.cost(numbers), {}, tree))
            counts[answer] += 1
        self.assertGreater(min(counts), 30)

    def test_only_least_openings_are_shown(self):
        for told in random_orders(450, 80, sites=(1, 4), clients=(0, 4)):
            tree = opening_cases(told.order)
            least = told.cost(best_of(told))
            for numbers in told.sets():
                self.assertIs(check_opening(told.order, numbers, tree), told.cost(numbers) == least)

    def test_lists_that_are_no_openings(self):
        order = Order(LINE, [(0, 0), (1, 0), (1, 0)], [0, 1])
        tree = opening_cases(order)
        self.assertIs(check_opening(order, [0, 1], tree), True)
        for numbers in ([], [1, 0], [0, 0, 1], [0, 1, 3], [-1, 0, 1], [3], [-2], [10 ** 20]):
            self.assertIs(check_opening(order, numbers, tree), False)

    def test_each_fault_alone(self):
        order = Order(LINE, [(0, 2), (1, 3)], [0, 1])
        # Opening the site 0 costs 3, the site 1 costs 4.
        tree = ("site", 0, ("bound", [(0, 1), (1, 1)]), ("site", 1, ("bound", [(1, 1), (0, 1)]), ("none",)))
        self.assertIs(check_opening(order, [0], tree), True)
        self.assertIs(check_opening(order, [1], tree), False)
        self.assertIs(check_opening(order, [0], ("bound", [(1, 1), (2, 1)])), True)
        self.assertIs(check_opening(order, [0], ("bound", [(3, 2), (3, 2)])), True)
        self.assertIs(check_opening(order, [0], ("bound", [(1, 1), (11, 6)])), False)
        # The site 0 would be paid more than it costs.
        self.assertIs(check_opening(order, [0], ("bound", [(2, 1), (3, 2)])), False)
        self.assertIs(check_opening(order, [0], ("bound", [(4, 1), (-1, 1)])), False)
        self.assertIs(check_opening(order, [0], ("bound", [(3, 1)])), False)
        self.assertIs(check_opening(order, [0], ("bound", [(1, 1), (2, 1), (0, 1)])), False)
        one, two = tree[2], tree[3]
        # A client may not exceed its way to an open site, even if that costs nothing; 0 is exceeded here.
        self.assertIs(check_opening(order, [0], ("site", 0, ("bound", [(1, 2), (1, 1)]), two)), False)
        self.assertIs(check_opening(order, [0], ("site", 0, one, ("none",))), False)
        self.assertIs(check_opening(order, [0], ("site", 0, ("none",), two)), False)
        self.assertIs(check_opening(order, [0], ("site", 0, ("site", 0, one, one), two)), False)
        self.assertIs(check_opening(order, [0], ("site", 0, ("site", 1, ("bound", [(0, 1), (0, 1)]), one), two)), True)
        self.assertIs(check_opening(order, [0], ("site", 0, ("site", 1, one, one), two)), False)
        self.assertIs(check_opening(order, [0], ("none",)), False)
        for site in (-1, -2, 2, 10 ** 20):
            self.assertIs(check_opening(order, [0], ("site", site, one, two)), False)

    def test_closed_sites_play_no_part(self):
        order = Order(LINE, [(0, 0), (3, 5)], [0])
        # With the site 0 closed the client may go up to 7 + 5.
        tree = ("site", 0, ("bound", [(0, 1)]), ("bound", [(12, 1)]))
        self.assertIs(check_opening(order, [0], tree), True)
        order = Order(LINE, [(0, 12), (3, 5)], [0])
        self.assertIs(check_opening(order, [0], tree), True)
        self.assertIs(check_opening(order, [1], tree), True)
        self.assertIs(check_opening(order, [1], ("site", 0, ("bound", [(0, 1)]), ("bound", [(25, 2)]))), False)
        self.assertIs(check_opening(order, [1], ("site", 0, ("bound", [(0, 1)]), ("bound", [(23, 2)]))), False)

    def test_greatest_prices(self):
        order = Order(Network(2, [(0, 1, MILLION)]), [(0, MILLION)] * 10, [1] * 20)
        self.assertEqual(told_opening(order), [0])
        self.assertEqual(order.cost([0]), 21 * MILLION)
        self.assertIs(check_opening(order, [7], opening_cases(order)), True)
        self.assertIs(check_opening(order, [0, 7], opening_cases(order)), False)


if __name__ == "__main__":
    unittest.main()
