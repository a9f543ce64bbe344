"""Spanning forests (points 301 to 303)."""

from math import factorial

from tests.cases import Case
from tests.samples import MILLION, changed_lists, first_of, great_network, price_of, reach, small_networks, sublists
from trunkweb.networks.network import Network
from trunkweb.trees.spanning import check_forest, count_forests, count_least_forests, forest_price, told_forest


def is_forest(network, numbers):
    """Whether the edges have no cycle: each joins two vertices that the ones before leave apart."""
    for at, number in enumerate(numbers):
        u, v, _ = network.edges()[number]
        if v in reach(network, u, False, numbers[:at]):
            return False
    return True


def is_spanning(network, numbers):
    """Whether the edges connect what is connected."""
    return all(v in reach(network, u, False, numbers) for u, v, _ in network.edges())


def all_forests(network):
    """All spanning forests, by trying all lists of edges."""
    lists = sublists(range(len(network.edges())))
    return [numbers for numbers in lists if is_forest(network, numbers) and is_spanning(network, numbers)]


def complete(size, price=1):
    """The network in which each two vertices are joined."""
    return Network(size, [(u, v, price) for u in range(size) for v in range(u)])


def two_sides(left, right):
    """The network of two sides with all edges between them."""
    return Network(left + right, [(u, left + v, 3) for u in range(left) for v in range(right)])


class Small(Case):
    def test_against_all_lists(self):
        for network in small_networks(91, 150, (1, 5), (0, 8)):
            known = all_forests(network)
            told = self.steady(told_forest, network)
            self.assertEqual(told, first_of(network, known))
            least = price_of(network, told)
            best = [numbers for numbers in known if price_of(network, numbers) == least]
            self.assertEqual(self.steady(count_forests, network), len(known))
            self.assertEqual(self.steady(count_least_forests, network), len(best))
            for numbers in sublists(range(len(network.edges()))):
                self.assertIs(check_forest(network, numbers), numbers in best)
                self.assertEqual(forest_price(network, numbers), price_of(network, numbers))

    def test_other_lists(self):
        for network in small_networks(92, 60, (1, 5), (0, 8)):
            told = told_forest(network)
            many = len(network.edges())
            for numbers in changed_lists(told, many):
                if sorted(set(numbers)) != numbers or not set(numbers) <= set(range(many)):
                    self.assertIs(self.steady(check_forest, network, numbers), False)
            for numbers in (told + told, told[::-1] + [0], [-1], [-many], [many], [2 ** 40], [0, 0]):
                if numbers:
                    self.assertFalse(check_forest(network, numbers))

    def test_denser_counts(self):
        for network in small_networks(93, 25, (4, 5), (9, 11), (0, 1, 2)):
            known = all_forests(network)
            least = min(price_of(network, numbers) for numbers in known)
            self.assertEqual(count_forests(network), len(known))
            self.assertEqual(count_least_forests(network), [price_of(network, n) for n in known].count(least))


class Told(Case):
    def test_ties(self):
        network = Network(4, [(2, 3, 1), (0, 1, 0), (1, 0, 0), (1, 2, 1), (0, 2, 1), (0, 3, 1)])
        self.assertEqual(told_forest(network), [0, 1, 3])
        self.assertTrue(check_forest(network, [2, 4, 5]))
        self.assertFalse(check_forest(network, [0, 3, 5]))
        self.assertFalse(check_forest(network, [5, 4, 2]))
        self.assertEqual(told_forest(Network(3, [(0, 1, 9), (0, 1, 8), (0, 1, 8)])), [1])

    def test_no_edges(self):
        for size in (1, 2, 40):
            network = Network(size, [])
            self.assertEqual((told_forest(network), forest_price(network, [])), ([], 0))
            self.assertEqual((count_forests(network), count_least_forests(network)), (1, 1))
            self.assertTrue(check_forest(network, []))
            self.assertFalse(check_forest(network, [0]))

    def test_great(self):
        for seed in range(3):
            network = great_network(94 + seed, most=(1, 50, MILLION)[seed])
            told = told_forest(network)
            self.assertTrue(check_forest(network, told))
            self.assertFalse(check_forest(network, told[1:]))
            self.assertGreaterEqual(count_forests(network), count_least_forests(network))
            self.assertGreaterEqual(count_least_forests(network), 1)
            self.assertEqual(forest_price(network, told), price_of(network, told))


class Counts(Case):
    def test_complete_networks(self):
        for size in range(1, 21):
            many = size ** (size - 2) if size > 1 else 1
            self.assertEqual(count_forests(complete(size)), many)
            self.assertEqual(count_least_forests(complete(size)), many)

    def test_two_sides(self):
        for left, right in ((1, 1), (1, 7), (2, 3), (3, 3), (4, 6), (8, 25), (10, 20), (14, 14)):
            many = left ** (right - 1) * right ** (left - 1)
            self.assertEqual(count_forests(two_sides(left, right)), many)

    def test_edges_with_the_same_ends(self):
        self.assertEqual(count_forests(Network(2, [(0, 1, 1)] * 200)), 200)
        network = Network(3, [(0, 1, 2)] * 3 + [(1, 0, 1)] * 2 + [(1, 2, 5)] * 7)
        self.assertEqual((count_forests(network), count_least_forests(network)), (35, 14))

    def test_several_parts(self):
        edges = [(u, v, 1) for u in range(4) for v in range(u)]
        edges += [(5 + u, 5 + v, 2) for u in range(5) for v in range(u)]
        self.assertEqual(count_forests(Network(12, edges)), 4 ** 2 * 5 ** 3)
        self.assertEqual(count_least_forests(Network(12, edges)), 4 ** 2 * 5 ** 3)

    def test_lower_prices_are_contracted(self):
        ring = [(v, (v + 1) % 40, 5) for v in range(40)]
        self.assertEqual(count_forests(Network(40, ring)), 40)
        self.assertEqual(count_least_forests(Network(40, ring)), 40)
        self.assertEqual(count_least_forests(Network(40, ring).with_price(7, 4)), 39)
        self.assertEqual(count_least_forests(Network(40, ring).with_price(7, 6)), 1)

    def test_each_order(self):
        fan = Network(40, [(0, v, v) for v in range(1, 40)] + [(v, v + 1, 100) for v in range(1, 39)])
        self.assertEqual(count_least_forests(fan), 1)
        first, second = 1, 1
        for _ in range(38):
            first, second = first + second, first + 2 * second
        self.assertEqual(count_forests(fan), second)
        self.assertGreater(factorial(40), count_forests(fan))
