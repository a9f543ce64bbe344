"""Tight edges and bottlenecks (point 205)."""

from tests.cases import Case
from tests.samples import MILLION, great_network, least_sides, leaves, small_networks
from trunkweb.errors import BadVertex, SameVertex
from trunkweb.flows.flow import greatest_flow
from trunkweb.flows.tight import bottlenecks, tight_edges
from trunkweb.networks.network import Network

BOTH = (True, False)


def value_with(network, number, change, goal, arcs):
    """The greatest value if the capacity of an edge is changed."""
    price = network.edges()[number][2] + change
    return greatest_flow(network.with_price(number, price), 0, goal, arcs)[0]


class Small(Case):
    def test_against_all_sides(self):
        for network in small_networks(41, 120, (2, 6), (0, 10)):
            for arcs in BOTH:
                known = least_sides(network, 0, 1, arcs)[1]
                edges = network.edges()
                tight = [k for k, e in enumerate(edges) if any(leaves(e, side, arcs) for side in known)]
                all_of = [k for k, e in enumerate(edges) if all(leaves(e, side, arcs) for side in known)]
                self.assertEqual(self.steady(tight_edges, network, 0, 1, arcs), tight)
                self.assertEqual(self.steady(bottlenecks, network, 0, 1, arcs), all_of)

    def test_by_changing_each_capacity(self):
        for network in small_networks(42, 80, (2, 5), (0, 9)):
            goal = network.size() - 1
            for arcs in BOTH:
                value = greatest_flow(network, 0, goal, arcs)[0]
                tight = tight_edges(network, 0, goal, arcs)
                narrow = bottlenecks(network, 0, goal, arcs)
                for number, edge in enumerate(network.edges()):
                    if edge[2] > 0:
                        less = value_with(network, number, -1, goal, arcs) < value
                        self.assertIs(number in tight, less)
                    more = value_with(network, number, 1, goal, arcs) > value
                    self.assertIs(number in narrow, more)


class Edges(Case):
    def test_a_line(self):
        network = Network(4, [(0, 1, 2), (2, 1, 2), (2, 3, 5)])
        self.assertEqual(tight_edges(network, 0, 3, False), [0, 1])
        self.assertEqual(bottlenecks(network, 0, 3, False), [])
        self.assertEqual(bottlenecks(network.with_price(0, 1), 0, 3, False), [0])
        self.assertEqual(tight_edges(network, 0, 3, True), [])

    def test_capacity_zero(self):
        network = Network(2, [(0, 1, 0), (1, 0, 0)])
        self.assertEqual(tight_edges(network, 0, 1, False), [0, 1])
        self.assertEqual(bottlenecks(network, 0, 1, False), [0, 1])
        self.assertEqual(bottlenecks(network, 0, 1, True), [0])
        self.assertEqual(tight_edges(network, 1, 0, True), [1])

    def test_errors(self):
        network = Network(3, [(0, 1, 4)])
        for call in (tight_edges, bottlenecks):
            for arcs in BOTH:
                for bad in (3, -1, 50):
                    self.fails(BadVertex, bad, call, network, bad, 8, arcs)
                    self.fails(BadVertex, bad, call, network, bad, bad, arcs)
                    self.fails(BadVertex, bad, call, network, 1, bad, arcs)
                self.fails(SameVertex, 2, call, network, 2, 2, arcs)

    def test_great(self):
        for seed in range(3):
            network = great_network(seed + 43, most=(5, 100, MILLION)[seed])
            for arcs in BOTH:
                value = greatest_flow(network, 0, 1, arcs)[0]
                tight = tight_edges(network, 0, 1, arcs)
                narrow = bottlenecks(network, 0, 1, arcs)
                self.assertLessEqual(set(narrow), set(tight))
                for number in tight[:4]:
                    if network.edges()[number][2] > 0:
                        less = network.with_price(number, network.edges()[number][2] - 1)
                        self.assertEqual(greatest_flow(less, 0, 1, arcs)[0], value - 1)
