"""Quick forests (point 505)."""

import random
from fractions import Fraction

from tests.cases import Case
from tests.samples import MILLION, changed_lists, great_network, price_of, reach, small_networks
from tests.test_forests import joins, lists_of, ringed, some_pairs, terminals_of
from tests.test_moats import changed_moats, good
from trunkweb.errors import BadPair, OutOfRange
from trunkweb.forests.forests import told_forest
from trunkweb.forests.growing import check_quick_forest, quick_forest
from trunkweb.networks.network import Network


def is_quick(network, pairs, forest, moats):
    """Point 505: whether a list and moats are a quick forest."""
    if sorted(set(forest)) != forest or not set(forest) <= set(range(len(network.edges()))):
        return False
    if not joins(network, pairs, forest) or not good(network, pairs, moats):
        return False
    many = len(terminals_of(pairs))
    total = sum(Fraction(*height) for _, height in moats)
    return many * price_of(network, forest) <= (2 * many - 2) * total


class Quick(Case):
    def quick(self, network, pairs):
        """Test all that is promised of what is told; return it."""
        told = self.steady(quick_forest, network, pairs)
        if any(v not in reach(network, u, False) for u, v in pairs):
            self.assertIsNone(told)
        else:
            self.assertIs(type(told), tuple)
            self.assertTrue(is_quick(network, pairs, *told))
            self.assertIs(self.steady(check_quick_forest, network, pairs, *told), True)
        return told

    def test_small(self):
        dice = random.Random(281)
        none = 0
        for network in small_networks(281, 500, (2, 7), (0, 12), (0, 1, 3, 9, 100)):
            for most in (1, 4, 20):
                none += self.quick(network, some_pairs(dice, network, most)) is None
        self.assertGreater(none, 200)

    def test_held_against_the_least_price(self):
        dice = random.Random(282)
        for network in small_networks(282, 300, (2, 6), (3, 9)):
            pairs = some_pairs(dice, network, 4)
            told = self.quick(network, pairs)
            if told is not None:
                least = price_of(network, told_forest(network, pairs))
                many = len(terminals_of(pairs))
                self.assertLessEqual(many * price_of(network, told[0]), (2 * many - 2) * least)
                self.assertLessEqual(sum(Fraction(*height) for _, height in told[1]), least)

    def test_ties_and_prices_of_0(self):
        dice = random.Random(283)
        for prices in ((0,), (1,), (0, 1)):
            for network in small_networks(283, 60, (3, 9), (8, 25), prices):
                self.quick(network, some_pairs(dice, network, 8))

    def test_twenty_pairs(self):
        dice = random.Random(284)
        for network in small_networks(284, 40, (10, 20), (30, 60), (5, MILLION)):
            self.quick(network, [tuple(dice.sample(range(network.size()), 2)) for _ in range(20)])
        self.assertEqual(quick_forest(Network(2, [(0, 1, 6)]), [(0, 1), (1, 0)] * 10)[0], [0])

    def test_two_terminals(self):
        # One pair: the factor is 1, so the forest is a path of the least price.
        dice = random.Random(285)
        for network in small_networks(285, 100, (2, 9), (4, 20), (3, 50)):
            pair = tuple(dice.sample(range(network.size()), 2))
            told = self.quick(network, [pair])
            if told is not None:
                self.assertEqual(price_of(network, told[0]), price_of(network, told_forest(network, [pair])))

    def test_great(self):
        for seed, most in enumerate((0, 1, 40, MILLION)):
            network = ringed(286 + seed, most)
            vertices = random.Random(seed).sample(range(40), 40)
            self.quick(network, [(vertices[2 * k], vertices[2 * k + 1]) for k in range(20)])
            self.quick(great_network(seed, most=most), [(vertices[2 * k], vertices[2 * k + 1]) for k in range(4)])

    def test_edges_that_no_pair_needs(self):
        network = Network(4, [(0, 1, 2), (1, 2, 2), (2, 3, 50)])
        self.assertEqual(quick_forest(network, [(0, 1)])[0], [0])
        self.assertEqual(quick_forest(network, [(2, 1), (0, 1)])[0], [0, 1])


class Checks(Case):
    def test_the_factor_at_the_border(self):
        network = Network(4, [(0, 1, 4), (1, 2, 4), (0, 2, 4), (0, 3, 0)])
        pairs = [(0, 1), (1, 2)]
        moats = [([0, 3], (2, 1)), ([1], (2, 1)), ([2], (2, 1))]
        # 3 times 8 is 4 times 6.
        self.assertIs(check_quick_forest(network, pairs, [0, 1], moats), True)
        self.assertIs(check_quick_forest(network, pairs, [0, 1, 3], moats), True)
        self.assertIs(check_quick_forest(network, pairs, [0, 1, 2], moats), False)
        less = moats[:2] + [([2], (199, 100))]
        self.assertIs(check_quick_forest(network, pairs, [0, 1], less), False)
        self.assertIs(check_quick_forest(network, [(0, 1), (1, 2), (2, 3)], [0, 1, 3], moats), True)
        self.assertIs(check_quick_forest(network, [(0, 1), (1, 2), (2, 3)], [0, 1, 3], less), True)

    def test_each_condition(self):
        network = Network(4, [(0, 1, 4), (1, 2, 4), (0, 2, 4), (0, 3, 0)])
        pairs = [(0, 1), (1, 2)]
        moats = [([0, 3], (2, 1)), ([1], (2, 1)), ([2], (2, 1))]
        for forest in ([0], [1, 0], [0, 0, 1], [-1, 0, 1], [0, 1, 4], [], [3]):
            self.assertIs(check_quick_forest(network, pairs, forest, moats), False)
        for other in ([([0], (2, 1)), ([1], (2, 1)), ([2], (2, 1))], moats + [([0, 1, 2], (1, 1))],
                      moats + [([3], (1, 1))], [([0, 3], (3, 1)), ([1], (3, 1)), ([2], (3, 1))], []):
            self.assertIs(check_quick_forest(network, pairs, [0, 1], other), False)

    def test_changed(self):
        dice = random.Random(287)
        counts = [0, 0]
        for network in small_networks(287, 60, (2, 5), (2, 8)):
            pairs = some_pairs(dice, network, 4)
            forest, moats = quick_forest(network, pairs) or ([], [])
            many = len(network.edges())
            for other in list(changed_lists(forest, many)) + lists_of(network):
                told = check_quick_forest(network, pairs, other, moats)
                self.assertIs(told, is_quick(network, pairs, other, moats))
                counts[told] += 1
            for other in changed_moats(network, moats):
                told = self.steady(check_quick_forest, network, pairs, forest, other)
                self.assertIs(told, is_quick(network, pairs, forest, other))
                counts[told] += 1
        self.assertGreater(min(counts), 300)

    def test_errors(self):
        network = Network(10, [(0, 1, 3), (1, 2, 4)])
        for call, given in ((quick_forest, ()), (check_quick_forest, ([-1], [([], (0, 0))]))):
            for many in (0, 21, 22, 50):
                self.fails(OutOfRange, many, call, network, [(77, 77)] * many, *given)
            for pairs, at in (([(3, 3)], 0), ([(0, 10)], 0), ([(-1, 0)], 0), ([(0, 1), (1, 0), (2, 2), (0, 99)], 2),
                              ([(0, 1)] * 18 + [(5, -10), (5, 5)], 18)):
                self.fails(BadPair, at, call, network, pairs, *given)
