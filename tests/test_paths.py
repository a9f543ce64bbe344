"""Paths, their check, distances and components (points 104 to 106)."""

import random

from tests.cases import Case
from tests.samples import (
    MILLION, changed_lists, first_of, great_network, price_of, reach, simple_paths, small_networks, steps_from,
)
from trunkweb.errors import BadVertex
from trunkweb.networks.network import Network
from trunkweb.networks.paths import check_path, components, distances, least_prices, told_path

BOTH = (True, False)


class Small(Case):
    def test_against_all_paths(self):
        for network in small_networks(11, 120):
            for arcs in BOTH:
                for start in range(network.size()):
                    prices = self.steady(least_prices, network, start, arcs)
                    self.assertEqual(len(prices), network.size())
                    for goal in range(network.size()):
                        best = first_of(network, simple_paths(network, start, goal, arcs))
                        told = self.steady(told_path, network, start, goal, arcs)
                        self.assertEqual(told, best)
                        if best is None:
                            self.assertIsNone(prices[goal])
                        else:
                            self.assertEqual(prices[goal], price_of(network, best))
                            self.assertIs(self.steady(check_path, network, start, goal, told, prices, arcs), True)

    def test_denser_ones(self):
        for network in small_networks(12, 25, (4, 6), (8, 12), (0, 1, 2)):
            for arcs in BOTH:
                best = first_of(network, simple_paths(network, 0, network.size() - 1, arcs))
                self.assertEqual(told_path(network, 0, network.size() - 1, arcs), best)

    def test_distances(self):
        for network in small_networks(13, 60):
            rows = self.steady(distances, network)
            self.assertEqual(rows, [least_prices(network, v, False) for v in range(network.size())])
            for u in range(network.size()):
                self.assertEqual(rows[u][u], 0)
                for v in range(network.size()):
                    self.assertEqual(rows[u][v], rows[v][u])

    def test_components(self):
        for network in small_networks(14, 80, (1, 7), (0, 6)):
            told = self.steady(components, network)
            self.assertEqual(sorted(sum(told, [])), list(range(network.size())))
            self.assertEqual(told, sorted(told))
            for block in told:
                self.assertEqual(sorted(reach(network, block[0], False)), block)


class Edges(Case):
    def test_a_start_that_is_the_goal(self):
        network = Network(2, [(0, 1, 0), (1, 0, 0)])
        for arcs in BOTH:
            self.assertEqual(told_path(network, 1, 1, arcs), [])
            self.assertEqual(told_path(Network(1, []), 0, 0, arcs), [])
            self.assertEqual(least_prices(Network(1, []), 0, arcs), [0])

    def test_ties(self):
        loops = Network(4, [(0, 1, 0), (1, 2, 0), (0, 2, 0), (2, 3, 1), (0, 3, 1), (0, 2, 0)])
        self.assertEqual(told_path(loops, 0, 3, True), [4])
        self.assertEqual(told_path(loops, 0, 2, True), [2])
        late = Network(4, [(1, 3, 1), (0, 2, 1), (2, 3, 1), (0, 1, 1)])
        self.assertEqual(told_path(late, 0, 3, True), [1, 2])
        self.assertEqual(told_path(late, 3, 0, False), [0, 3])
        self.assertIsNone(told_path(late, 3, 0, True))

    def test_a_cheap_path_with_many_edges(self):
        network = Network(4, [(0, 3, MILLION), (0, 1, 0), (1, 2, 0), (2, 3, MILLION - 1)])
        self.assertEqual(told_path(network, 0, 3, True), [1, 2, 3])
        self.assertEqual(least_prices(network, 0, True), [0, 0, 0, MILLION - 1])

    def test_no_path(self):
        network = Network(3, [(0, 1, 4)])
        self.assertIsNone(told_path(network, 0, 2, False))
        self.assertIsNone(told_path(network, 1, 0, True))
        self.assertEqual(told_path(network, 1, 0, False), [0])
        self.assertEqual(least_prices(network, 1, True), [None, 0, None])
        self.assertEqual(distances(network), [[0, 4, None], [4, 0, None], [None, None, 0]])
        self.assertEqual(components(network), [[0, 1], [2]])

    def test_no_vertex(self):
        network = Network(3, [(0, 1, 4)])
        for bad in (3, -1, -3, 40, 2 ** 50):
            for arcs in BOTH:
                self.fails(BadVertex, bad, least_prices, network, bad, arcs)
                self.fails(BadVertex, bad, told_path, network, bad, 7, arcs)
                self.fails(BadVertex, bad, told_path, network, bad, bad, arcs)
                self.fails(BadVertex, bad, told_path, network, 0, bad, arcs)
                self.fails(BadVertex, bad, check_path, network, bad, 7, [], [], arcs)
                self.fails(BadVertex, bad, check_path, network, 0, bad, [], [], arcs)


def holds(network, start, goal, path, numbers, arcs):
    """The check of point 105, word by word."""
    if len(numbers) != network.size() or numbers[start] is None or numbers[start] > 0:
        return False
    for x in range(network.size()):
        for number, y in steps_from(network, x, arcs):
            if numbers[x] is not None:
                if numbers[y] is None or numbers[y] > numbers[x] + network.edges()[number][2]:
                    return False
    at = start
    for number in path:
        known = dict(steps_from(network, at, arcs))
        if number not in known:
            return False
        at = known[number]
    return at == goal and numbers[goal] is not None and price_of(network, path) == numbers[goal]


class Checks(Case):
    def test_changed_numbers(self):
        for network in small_networks(15, 60):
            for arcs in BOTH:
                prices = least_prices(network, 0, arcs)
                goal = network.size() - 1
                path = told_path(network, 0, goal, arcs)
                if path is None:
                    continue
                lists = [prices[:k] + [other] + prices[k + 1:]
                         for k in range(len(prices)) for other in (None, -1, 0, 1, 2, 5, 10 ** 9)]
                lists += [prices + [0], prices[:-1], [], [None] * len(prices), prices + [None]]
                lists += [[None if p is None else p - 1 for p in prices], [-1] * len(prices), [0] * len(prices)]
                for numbers in lists:
                    self.assertIs(check_path(network, 0, goal, path, numbers, arcs),
                                  holds(network, 0, goal, path, numbers, arcs))

    def test_changed_paths(self):
        for network in small_networks(16, 60):
            for arcs in BOTH:
                prices = least_prices(network, 0, arcs)
                goal = network.size() - 1
                many = len(network.edges())
                lists = [told_path(network, 0, goal, arcs) or []]
                lists += list(changed_lists(lists[0], many))
                lists += simple_paths(network, 0, goal, arcs)
                for path in lists:
                    self.assertIs(check_path(network, 0, goal, path, prices, arcs),
                                  holds(network, 0, goal, path, prices, arcs))

    def test_a_walk_that_comes_back_is_a_path(self):
        network = Network(3, [(0, 1, 0), (1, 2, 3)])
        self.assertTrue(check_path(network, 0, 2, [0, 0, 0, 1], [0, 0, 3], False))
        self.assertFalse(check_path(network, 0, 2, [0, 0, 0, 1], [0, 0, 3], True))
        self.assertTrue(check_path(network, 0, 0, [0, 0], [0, 0, 3], False))
        self.assertTrue(check_path(network, 2, 2, [], [3, 3, 0], False))
        self.assertFalse(check_path(network, 2, 2, [1, 1], [3, 3, 0], False))

    def test_numbers_below_zero(self):
        network = Network(3, [(0, 1, 2), (1, 2, 3)])
        self.assertTrue(check_path(network, 0, 1, [0], [-5, 2, -7], True) is False)
        self.assertTrue(check_path(network, 0, 0, [], [0, -9, -9], True))
        self.assertFalse(check_path(network, 0, 0, [], [-1, 0, 0], True))
        self.assertFalse(check_path(network, 0, 0, [], [1, 0, 0], True))
        self.assertFalse(check_path(network, 0, 0, [], [None, 0, 0], True))

    def test_a_passing_check_is_never_wrong(self):
        dice = random.Random(17)
        passed = 0
        for network in small_networks(18, 30, (2, 4), (1, 5), (1, 2)):
            for arcs in BOTH:
                for _ in range(60):
                    numbers = [dice.choice((0, 0, 1, 2, None)) for _ in range(network.size())]
                    for path in simple_paths(network, 0, 1, arcs):
                        if check_path(network, 0, 1, path, numbers, arcs):
                            passed += 1
                            self.assertEqual(price_of(network, path), least_prices(network, 0, arcs)[1])
        self.assertGreater(passed, 10)


class Great(Case):
    def test_forty_vertices(self):
        for seed in range(6):
            network = great_network(seed, most=(0, 1, 5, 100, MILLION, MILLION)[seed])
            for arcs in BOTH:
                prices = least_prices(network, 0, arcs)
                for goal in range(40):
                    path = told_path(network, 0, goal, arcs)
                    if path is None:
                        self.assertIsNone(prices[goal])
                    else:
                        self.assertTrue(check_path(network, 0, goal, path, prices, arcs))
                        self.assertFalse(check_path(network, 0, goal, path + [200], prices, arcs))
            self.assertEqual(distances(network)[0], least_prices(network, 0, False))

    def test_a_long_line(self):
        network = Network(40, [(v, v + 1, MILLION) for v in range(39)])
        self.assertEqual(told_path(network, 0, 39, True), list(range(39)))
        self.assertEqual(told_path(network, 39, 0, False), list(range(39))[::-1])
        self.assertEqual(distances(network)[0][39], 39 * MILLION)
        self.assertEqual(components(network), [list(range(40))])
