"""Cut trees (points 210 and 211)."""

import random

from tests.cases import Case
from tests.samples import MILLION, great_network, reach, side_capacity, sides, small_networks
from trunkweb.errors import BadEdge, BadVertex, OutOfRange, SameVertex
from trunkweb.flows.cuttrees import check_tree, cut_tree, least_between, least_cut, tree_side
from trunkweb.flows.flow import greatest_flow
from trunkweb.networks.network import Network

LINE = [(3, 1, 5), (1, 0, 4), (4, 0, 4), (2, 4, 6)]


def side_of(size, tree, number, vertex):
    """The vertices that are connected with a vertex if a triple is left out."""
    rest = Network(size, [(u, v, 0) for k, (u, v, _) in enumerate(tree) if k != number])
    return sorted(reach(rest, vertex, False))


def least_of(network, one, two):
    """The least capacity of a side, by trying all."""
    return min(side_capacity(network, side, False) for side in sides(network, one, two))


class Small(Case):
    def test_by_trying_all_sides(self):
        for network in small_networks(81, 100, (1, 6), (0, 10)):
            size = network.size()
            tree, flows = self.steady(cut_tree, network)
            self.assertEqual((len(tree), len(flows)), (size - 1, size - 1))
            for number, (u, v, weight) in enumerate(tree):
                self.assertIs(type(tree[number]), tuple)
                side = side_of(size, tree, number, u)
                self.assertNotIn(v, side)
                self.assertEqual(side_capacity(network, side, False), weight)
                self.assertEqual(least_of(network, u, v), weight)
                self.assertEqual(self.steady(tree_side, size, tree, number), side)
            self.assertIs(self.steady(check_tree, network, tree, flows), True)
            for one in range(size):
                for two in range(size):
                    if one != two:
                        least, side = self.steady(least_between, size, tree, one, two)
                        self.assertEqual(least, least_of(network, one, two))
                        self.assertIn(one, side)
                        self.assertNotIn(two, side)
                        self.assertEqual(side_capacity(network, side, False), least)

    def test_least_cut(self):
        for network in small_networks(82, 80, (2, 6), (0, 10)):
            least, side = self.steady(least_cut, network)
            self.assertEqual(least, min(least_of(network, 0, v) for v in range(1, network.size())))
            self.assertEqual(side_capacity(network, side, False), least)
            self.assertTrue(side and side[0] > 0 and side == sorted(set(side)) and side[-1] < network.size())


class Ways(Case):
    def test_the_first_triple_on_the_way(self):
        self.assertEqual(least_between(5, LINE, 3, 2), (4, [1, 3]))
        self.assertEqual(least_between(5, LINE, 2, 3), (4, [2, 4]))
        self.assertEqual(least_between(5, LINE, 1, 4), (4, [1, 3]))
        self.assertEqual(least_between(5, LINE, 4, 1), (4, [2, 4]))
        self.assertEqual(least_between(5, LINE, 3, 1), (5, [3]))
        self.assertEqual(least_between(5, LINE, 1, 3), (5, [0, 1, 2, 4]))
        self.assertEqual(least_between(5, LINE, 4, 2), (6, [0, 1, 3, 4]))
        self.assertEqual(least_between(5, LINE, 0, 2), (4, [0, 1, 3]))

    def test_the_least_weight_counts(self):
        tree = [(0, 1, 9), (1, 2, 3), (2, 3, 7)]
        self.assertEqual(least_between(4, tree, 0, 3), (3, [0, 1]))
        self.assertEqual(least_between(4, tree, 3, 0), (3, [2, 3]))
        self.assertEqual(least_between(4, tree, 0, 1), (9, [0]))

    def test_tree_side(self):
        self.assertEqual([tree_side(5, LINE, k) for k in range(4)], [[3], [1, 3], [2, 4], [2]])

    def test_errors(self):
        for bad in (4, -1, -4, 40):
            self.fails(BadEdge, bad, tree_side, 5, LINE, bad)
        self.fails(BadEdge, 0, tree_side, 1, [], 0)
        for bad in (5, -1, 40):
            self.fails(BadVertex, bad, least_between, 5, LINE, bad, 77)
            self.fails(BadVertex, bad, least_between, 5, LINE, bad, bad)
            self.fails(BadVertex, bad, least_between, 5, LINE, 0, bad)
        self.fails(SameVertex, 3, least_between, 5, LINE, 3, 3)
        self.fails(SameVertex, 0, least_between, 1, [], 0, 0)
        self.fails(OutOfRange, 1, least_cut, Network(1, []))


class Edges(Case):
    def test_one_vertex(self):
        self.assertEqual(cut_tree(Network(1, [])), ([], []))
        self.assertTrue(check_tree(Network(1, []), [], []))
        self.assertFalse(check_tree(Network(1, []), [(0, 0, 0)], [[]]))
        self.assertFalse(check_tree(Network(1, []), [], [[]]))

    def test_parts_that_are_not_connected(self):
        network = Network(4, [(0, 2, 5), (1, 3, 7)])
        tree, flows = cut_tree(network)
        self.assertEqual(sorted(weight for _, _, weight in tree), [0, 5, 7])
        self.assertTrue(check_tree(network, tree, flows))
        self.assertEqual(least_cut(network), (0, [1, 3]))

    def test_great(self):
        for seed in range(3):
            network = great_network(83 + seed, most=(1, 50, MILLION)[seed])
            tree, flows = cut_tree(network)
            self.assertTrue(check_tree(network, tree, flows))
            for one, two in ((0, 1), (5, 39), (39, 5), (20, 21)):
                self.assertEqual(least_between(40, tree, one, two)[0], greatest_flow(network, one, two, False)[0])
            self.assertEqual(least_cut(network)[0], min(weight for _, _, weight in tree))


class Checks(Case):
    def holds(self, network, tree, flows):
        """Point 211, word by word."""
        size = network.size()
        if len(tree) != size - 1 or len(flows) != len(tree):
            return False
        if any(not (0 <= u < size and 0 <= v < size) or u == v for u, v, _ in tree):
            return False
        if len(reach(Network(size, [(u, v, 0) for u, v, _ in tree]), 0, False)) != size:
            return False
        for number, ((u, v, weight), flow) in enumerate(zip(tree, flows)):
            if side_capacity(network, side_of(size, tree, number, u), False) != weight:
                return False
            if len(flow) != len(network.edges()):
                return False
            if any(abs(amount) > edge[2] for amount, edge in zip(flow, network.edges())):
                return False
            totals = [0] * size
            for (x, y, _), amount in zip(network.edges(), flow):
                totals[x] += amount
                totals[y] -= amount
            if totals[u] != weight or any(totals[x] for x in range(size) if x not in (u, v)):
                return False
        return True

    def test_changed_triples_and_flows(self):
        passed = 0
        for network in small_networks(86, 60, (2, 5), (1, 8)):
            size = network.size()
            tree, flows = cut_tree(network)
            self.assertTrue(self.holds(network, tree, flows))
            trees = [tree[1:], tree + tree[:1], tree[::-1], [], tree[:-1] + tree[:1]]
            for k, (u, v, weight) in enumerate(tree):
                others = [(v, u, weight), (u, u, weight), (v, v, weight), (u, v, weight + 1), (u, v, weight - 1),
                          (-1, v, weight), (u, size, weight), (u, v, -weight)]
                others += [(x, y, weight) for x in range(size) for y in range(size)]
                trees += [tree[:k] + [other] + tree[k + 1:] for other in others]
            changed = [flows[1:], flows + flows[:1], flows[::-1], []]
            for k, flow in enumerate(flows):
                others = [[], flow + [0], flow[:-1], [-amount for amount in flow], [0] * len(flow)]
                others += [flow[:e] + [flow[e] + d] + flow[e + 1:] for e in range(len(flow)) for d in (-1, 1)]
                changed += [flows[:k] + [other] + flows[k + 1:] for other in others]
            for other in trees:
                expected = self.holds(network, other, flows)
                passed += expected
                self.assertIs(check_tree(network, other, flows), expected)
            for other in changed:
                expected = self.holds(network, tree, other)
                passed += expected
                self.assertIs(self.steady(check_tree, network, tree, other), expected)
        self.assertGreater(passed, 50)

    def test_trees_with_greatest_flows_that_are_no_cut_trees(self):
        dice = random.Random(87)
        missed = 0
        for network in small_networks(87, 80, (3, 6), (4, 10)):
            size = network.size()
            for _ in range(4):
                ends = [(v, dice.randrange(v)) for v in range(1, size)]
                known = [greatest_flow(network, u, v, False) for u, v in ends]
                tree = [(u, v, told[0]) for (u, v), told in zip(ends, known)]
                flows = [told[1] for told in known]
                expected = self.holds(network, tree, flows)
                missed += not expected
                self.assertIs(check_tree(network, tree, flows), expected)
        self.assertGreater(missed, 50)

    def test_one_triple_too_many(self):
        network = Network(3, [(0, 1, 4)])
        tree, flows = cut_tree(network)
        at = [weight for _, _, weight in tree].index(0)
        self.assertFalse(check_tree(network, tree + [tree[at]], flows + [flows[at]]))
        self.assertFalse(check_tree(network, [tree[at]] * 2, [flows[at]] * 2))
