"""The weights that decide between lists of the same price (points 301, 304, 401 and 405)."""

from tests.cases import Case
from tests.samples import MILLION, great_network, price_of, small_networks, sublists
from trunkweb.networks.told import told_numbers, told_weights


class Weights(Case):
    def test_the_order_of_all_lists(self):
        for network in small_networks(141, 30, (3, 5), (0, 6), (0, 1, 2, MILLION)):
            many = len(network.edges())
            weights = self.steady(told_weights, network.edges())
            self.assertTrue(all(weight > 0 for weight in weights))
            lists = list(sublists(range(many)))
            told = sorted(lists, key=lambda numbers: (price_of(network, numbers), len(numbers), numbers))
            self.assertEqual(sorted(lists, key=lambda numbers: sum(weights[k] for k in numbers)), told)
            for numbers in lists:
                self.assertEqual(told_numbers(sum(weights[k] for k in numbers), many), numbers)

    def test_great(self):
        weights = told_weights(great_network(142).edges())
        for numbers in ([], [0], [199], list(range(200)), list(range(0, 200, 7))):
            self.assertEqual(told_numbers(sum(weights[k] for k in numbers), 200), numbers)
