"""Greatest flows and least cuts (points 201 to 204)."""

import random
from itertools import product

from tests.cases import Case
from tests.samples import (
    MILLION, changed_lists, ends_in, great_network, least_sides, side_capacity, sides, small_networks, sublists,
)
from trunkweb.errors import BadVertex, SameVertex
from trunkweb.flows.flow import capacity, check_flow, far_side, greatest_flow, is_flow, near_side, out_of
from trunkweb.networks.network import Network

BOTH = (True, False)


def flows_out(network, vertex, flow):
    """What flows out at a vertex, less what flows in."""
    total = 0
    for (u, v, _), amount in zip(network.edges(), flow):
        total += amount * ((u == vertex) - (v == vertex))
    return total


def holds(network, start, goal, flow, arcs):
    """Point 201, word by word."""
    if len(flow) != len(network.edges()):
        return False
    for (_, _, price), amount in zip(network.edges(), flow):
        if amount > price or amount < (0 if arcs else -price):
            return False
    return all(flows_out(network, v, flow) == 0 for v in range(network.size()) if v not in (start, goal))


class Small(Case):
    def test_against_all_sides(self):
        for network in small_networks(21, 150, (2, 6), (0, 10)):
            for arcs in BOTH:
                start, goal = ends_in(random.Random(len(network.edges())), network.size())
                least, known = least_sides(network, start, goal, arcs)
                value, flow, side = self.steady(greatest_flow, network, start, goal, arcs)
                self.assertEqual(value, least)
                self.assertTrue(holds(network, start, goal, flow, arcs))
                self.assertEqual(flows_out(network, start, flow), value)
                near = sorted(set(known[0]).intersection(*known))
                far = sorted(set(known[0]).union(*known))
                self.assertIn(near, known)
                self.assertIn(far, known)
                self.assertEqual(side, near)
                self.assertEqual(self.steady(near_side, network, start, goal, arcs), near)
                self.assertEqual(self.steady(far_side, network, start, goal, arcs), far)
                for other in sides(network, start, goal):
                    self.assertIs(self.steady(check_flow, network, start, goal, flow, other, arcs), other in known)

    def test_against_all_flows(self):
        for network in small_networks(22, 30, (2, 4), (1, 4), (1, 2)):
            for arcs in BOTH:
                ranges = [range(0 if arcs else -edge[2], edge[2] + 1) for edge in network.edges()]
                values = [flows_out(network, 0, flow) for flow in product(*ranges)
                          if holds(network, 0, 1, list(flow), arcs)]
                self.assertEqual(greatest_flow(network, 0, 1, arcs)[0], max(values))

    def test_is_flow(self):
        dice = random.Random(23)
        for network in small_networks(24, 60, (2, 4), (1, 5), (1, 2)):
            for arcs in BOTH:
                flow = greatest_flow(network, 0, 1, arcs)[1]
                lists = [flow] + list(changed_lists(flow, 3)) + [[-amount for amount in flow], [], flow + [0]]
                lists += [[dice.randint(-2, 2) for _ in flow] for _ in range(30)]
                for other in lists:
                    self.assertIs(self.steady(is_flow, network, 0, 1, other, arcs),
                                  holds(network, 0, 1, other, arcs))

    def test_out_of(self):
        dice = random.Random(25)
        for network in small_networks(26, 40):
            flow = [dice.randint(-50, 50) for _ in network.edges()]
            for arcs in BOTH:
                for v in range(network.size()):
                    self.assertEqual(self.steady(out_of, network, v, flow, arcs), flows_out(network, v, flow))

    def test_capacity(self):
        for network in small_networks(27, 40):
            for arcs in BOTH:
                for side in sublists(range(network.size())):
                    told = self.steady(capacity, network, side, arcs)
                    self.assertEqual(told, side_capacity(network, side, arcs))


class Edges(Case):
    def test_edges_with_the_same_ends(self):
        network = Network(2, [(0, 1, 3), (0, 1, 4), (1, 0, 5), (0, 1, 0)])
        self.assertEqual(greatest_flow(network, 0, 1, True), (7, [3, 4, 0, 0], [0]))
        self.assertEqual(greatest_flow(network, 0, 1, False), (12, [3, 4, -5, 0], [0]))
        self.assertEqual(greatest_flow(network, 1, 0, True), (5, [0, 0, 5, 0], [1]))
        self.assertEqual(greatest_flow(network, 1, 0, False), (12, [-3, -4, 5, 0], [1]))

    def test_no_way(self):
        network = Network(4, [(1, 0, 3), (2, 3, 4), (0, 1, 0)])
        self.assertEqual(greatest_flow(network, 0, 3, True), (0, [0, 0, 0], [0]))
        self.assertEqual(far_side(network, 0, 3, True), [0, 1])
        self.assertEqual(near_side(network, 0, 3, False), [0, 1])
        self.assertEqual(far_side(Network(2, []), 1, 0, True), [1])

    def test_a_flow_that_leads_back_into_the_start(self):
        network = Network(3, [(0, 1, 2), (1, 0, 2), (1, 2, 1)])
        self.assertTrue(is_flow(network, 0, 2, [2, 1, 1], True))
        self.assertEqual(out_of(network, 0, [2, 1, 1], True), 1)
        self.assertTrue(check_flow(network, 0, 2, [2, 1, 1], [0, 1], True))
        self.assertTrue(is_flow(network, 2, 0, [1, 0, 1], True))
        self.assertEqual(out_of(network, 2, [1, 0, 1], True), -1)

    def test_great_capacities(self):
        network = Network(3, [(0, 1, MILLION), (0, 1, MILLION), (1, 2, MILLION), (1, 2, MILLION), (0, 2, MILLION)])
        self.assertEqual(greatest_flow(network, 0, 2, True)[0], 3 * MILLION)


class Errors(Case):
    def test_ends(self):
        network = Network(3, [(0, 1, 4), (1, 2, 3)])
        for arcs in BOTH:
            for call, given in ((greatest_flow, ()), (near_side, ()), (far_side, ()), (is_flow, ([0, 0],)),
                                (check_flow, ([0, 0], [0])), (check_flow, ([], [7])), (is_flow, ([9],))):
                for bad in (3, -1, -3, 2 ** 40):
                    self.fails(BadVertex, bad, call, network, bad, 9, *given, arcs)
                    self.fails(BadVertex, bad, call, network, bad, bad, *given, arcs)
                    self.fails(BadVertex, bad, call, network, 0, bad, *given, arcs)
                for same in range(3):
                    self.fails(SameVertex, same, call, network, same, same, *given, arcs)

    def test_out_of(self):
        network = Network(3, [(0, 1, 4), (1, 2, 3)])
        for bad in (3, -1, 40):
            self.fails(BadVertex, bad, out_of, network, bad, [0, 0], True)

    def test_capacity(self):
        network = Network(3, [(0, 1, 4), (1, 2, 3)])
        self.assertEqual(capacity(network, [], True), 0)
        for side, at in (([3], 3), ([-1], -1), ([0, 0], 0), ([0, 2, 1, 9], 1), ([2, 1], 1), ([0, 1, 2, 3], 3),
                         ([1, 3, 0], 3), ([-2, -1], -2), ([1, 1, 7], 1)):
            for arcs in BOTH:
                self.fails(BadVertex, at, capacity, network, side, arcs)


class Checks(Case):
    def test_changed_sides(self):
        for network in small_networks(28, 40):
            for arcs in BOTH:
                value, flow, near = greatest_flow(network, 0, 1, arcs)
                good = [side for side in sides(network, 0, 1) if side_capacity(network, side, arcs) == value]
                for side in list(changed_lists(near, network.size())) + [[], [1], near + near, near[::-1]]:
                    self.assertIs(check_flow(network, 0, 1, flow, side, arcs), side in good)

    def test_changed_flows(self):
        for network in small_networks(29, 40):
            for arcs in BOTH:
                value, flow, near = greatest_flow(network, 0, 1, arcs)
                for other in changed_lists(flow, 1):
                    good = holds(network, 0, 1, other, arcs) and flows_out(network, 0, other) == value
                    self.assertIs(check_flow(network, 0, 1, other, near, arcs), good)

    def test_a_flow_in_the_wrong_direction(self):
        network = Network(2, [(0, 1, 4)])
        self.assertFalse(check_flow(network, 0, 1, [-4], [0], False))
        self.assertTrue(check_flow(network, 1, 0, [-4], [1], False))
        self.assertFalse(check_flow(network, 0, 1, [3], [0], False))
        self.assertFalse(check_flow(network, 0, 1, [4], [0, 1], False))
        self.assertFalse(check_flow(network, 0, 1, [4], [1], False))


class Great(Case):
    def test_forty_vertices(self):
        for seed in range(8):
            network = great_network(seed + 30, 40, 200, (1, 3, 50, 1000, MILLION, MILLION, MILLION, MILLION)[seed])
            for arcs in BOTH:
                value, flow, near = greatest_flow(network, 0, 39, arcs)
                far = far_side(network, 0, 39, arcs)
                self.assertTrue(check_flow(network, 0, 39, flow, near, arcs))
                self.assertTrue(check_flow(network, 0, 39, flow, far, arcs))
                self.assertLessEqual(set(near), set(far))
                self.assertEqual(capacity(network, near, arcs), value)
                if value:
                    self.assertFalse(check_flow(network, 0, 39, [0] * 200, near, arcs))
