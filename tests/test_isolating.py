"""Group flows, isolating sides and their check (points 901 and 902)."""

import random
import unittest

from tests.cases import Case
from tests.samples import changed_lists, great_network, side_capacity, small_networks, sublists
from trunkweb.errors import BadTerminal, OutOfRange
from trunkweb.multicuts.groups import greatest_of_group
from trunkweb.multicuts.isolating import check_isolating, group_value, isolating_cut
from trunkweb.networks.network import Network

LINE = Network(4, [(0, 1, 3), (2, 1, 2), (2, 3, 5)])


def isolating_sides(network, groups, number):
    """All isolating sides of a group."""
    taken = {vertex for group in groups for vertex in group}
    others = [vertex for vertex in range(network.size()) if vertex not in taken]
    return [sorted(groups[number] + some) for some in sublists(others)]


def least_sides(network, groups, number):
    """The least capacity of an isolating side of a group, and all sides that have it."""
    known = [(side_capacity(network, side, False), side) for side in isolating_sides(network, groups, number)]
    least = min(known)[0]
    return least, [side for capacity, side in known if capacity == least]


def near_side(network, terminals, number):
    """The least capacity of an isolating side of a terminal, and the near one."""
    least, sides = least_sides(network, [[vertex] for vertex in terminals], number)
    near = sorted(set.intersection(*[set(side) for side in sides]))
    assert near in sides
    return least, near


def value_of(network, groups, number, flow):
    """Point 901, word by word: the value of a group flow, or None."""
    edges = network.edges()
    if len(flow) != len(edges) or any(abs(amount) > edge[2] for amount, edge in zip(flow, edges)):
        return None

    def out(vertex):
        return sum(amount * ((u == vertex) - (v == vertex)) for amount, (u, v, _) in zip(flow, edges))

    taken = {vertex for group in groups for vertex in group}
    if any(out(vertex) for vertex in range(network.size()) if vertex not in taken):
        return None
    return sum(out(vertex) for vertex in groups[number])


def some_terminals(seed, count, most=4, sizes=(2, 6), many=(0, 10)):
    """Small networks with terminals."""
    dice = random.Random(seed)
    for network in small_networks(seed, count, sizes, many):
        k = dice.randint(2, min(most, network.size()))
        yield network, sorted(dice.sample(range(network.size()), k))


def some_groups(seed, count):
    """Small networks with groups, of which some are empty, and the number of a group."""
    dice = random.Random(seed)
    for network in small_networks(seed, count, (2, 6), (0, 10)):
        groups = [[] for _ in range(dice.randint(1, 4))]
        for vertex in dice.sample(range(network.size()), network.size()):
            place = dice.randint(0, len(groups) + 2)
            if place < len(groups):
                groups[place].append(vertex)
        yield network, groups, dice.randrange(len(groups))


class IsolatingCuts(Case):
    def test_against_all_sides(self):
        apart = 0
        for network, terminals in some_terminals(461, 300):
            sides = []
            for number in range(len(terminals)):
                value, flow, side = self.steady(isolating_cut, network, terminals, number)
                self.assertEqual((value, side), near_side(network, terminals, number))
                self.assertEqual(value_of(network, [[vertex] for vertex in terminals], number, flow), value)
                self.assertIs(self.steady(check_isolating, network, terminals, number, flow, side), True)
                sides.append(side)
            # Near sides have no vertex in common.
            self.assertEqual(sum(len(side) for side in sides), len(set().union(*sides)))
            apart += sum(len(side) > 1 for side in sides)
        self.assertGreater(apart, 100)

    def test_a_line(self):
        self.assertEqual(isolating_cut(LINE, [0, 3], 0), (2, [2, -2, 2], [0, 1]))
        self.assertEqual(isolating_cut(LINE, [0, 3], 1), (2, [-2, 2, -2], [2, 3]))
        self.assertEqual(isolating_cut(LINE, [0, 2], 1)[0], 2)
        # The side of vertex 2 has vertex 3, which hangs on it.
        self.assertEqual(isolating_cut(LINE, [0, 2], 1)[2], [2, 3])

    def test_all_vertices_are_terminals(self):
        value, flow, side = isolating_cut(LINE, [0, 1, 2, 3], 1)
        self.assertEqual((value, side), (5, [1]))
        self.assertEqual((flow[0], flow[1]), (-3, -2))

    def test_without_edges(self):
        self.assertEqual(isolating_cut(Network(3, []), [0, 2], 1), (0, [], [2]))

    def test_great_networks(self):
        for seed in range(3):
            network = great_network(462 + seed)
            terminals = [0, 5, 9, 14, 20, 27, 33, 39]
            for number in range(8):
                value, flow, side = isolating_cut(network, terminals, number)
                self.assertIs(check_isolating(network, terminals, number, flow, side), True)
                self.assertEqual(value, side_capacity(network, side, False))


class GroupFlows(Case):
    def test_values(self):
        dice = random.Random(465)
        counts = [0, 0]
        for network, groups, number in some_groups(466, 1500):
            edges = network.edges()
            flow = [dice.choice((0, dice.randint(-edge[2] - 1, edge[2] + 1))) for edge in edges]
            told = self.steady(group_value, network, groups, number, flow)
            self.assertEqual(told, value_of(network, groups, number, flow))
            counts[told is None] += 1
        self.assertGreater(min(counts), 200)

    def test_greatest_flows(self):
        for network, groups, number in some_groups(467, 300):
            many = len(network.edges())
            value, flow = greatest_of_group(network, groups, number, [0] * many)
            self.assertEqual(value_of(network, groups, number, flow), value)
            self.assertEqual(least_sides(network, groups, number)[0], value)
            # From a flow for groups with fewer vertices the same value is reached.
            free = [vertex for vertex in range(network.size()) if vertex not in sum(groups, [])]
            for vertex in free:
                more = [group + [vertex] if index == 0 else group for index, group in enumerate(groups)]
                after, other = greatest_of_group(network, more, number, flow)
                self.assertEqual(after, least_sides(network, more, number)[0])
                self.assertEqual(value_of(network, more, number, other), after)

    def test_lists_of_any_length(self):
        groups = [[0], [3]]
        self.assertEqual(group_value(LINE, groups, 0, [2, -2, 2]), 2)
        self.assertEqual(group_value(LINE, groups, 1, [2, -2, 2]), -2)
        for flow in ([], [2], [2, -2], [2, -2, 2, 0], [0] * 9):
            self.assertIsNone(group_value(LINE, groups, 0, flow))
        self.assertEqual(group_value(Network(2, []), groups[:1], 0, []), 0)
        self.assertIsNone(group_value(Network(2, []), groups[:1], 0, [0]))

    def test_empty_groups(self):
        self.assertEqual(group_value(LINE, [[], [0], [3]], 0, [2, -2, 2]), 0)
        self.assertEqual(group_value(LINE, [[], [0], [3]], 1, [2, -2, 2]), 2)
        self.assertIsNone(group_value(LINE, [[], [0]], 1, [2, -2, 2]))
        self.assertEqual(group_value(LINE, [[]], 0, [0, 0, 0]), 0)
        self.assertIsNone(group_value(LINE, [[]], 0, [1, 0, 0]))

    def test_each_limit(self):
        groups = [[0, 2], [1, 3]]
        for flow, value in (([3, 2, 5], 10), ([-3, -2, -5], -10), ([4, 0, 0], None), ([-4, 0, 0], None),
                            ([0, 3, 0], None), ([0, -3, 0], None), ([0, 0, 6], None), ([0, 0, -5], -5)):
            self.assertEqual(group_value(LINE, groups, 0, flow), value)
            self.assertEqual(group_value(LINE, groups, 1, flow), None if value is None else -value)


class Checks(Case):
    def test_changed_flows_and_sides(self):
        counts = [0, 0]
        for network, terminals in some_terminals(468, 60, sizes=(2, 4), many=(1, 6)):
            groups = [[vertex] for vertex in terminals]
            for number in range(len(terminals)):
                value, flow, side = isolating_cut(network, terminals, number)
                for other in changed_lists(side, network.size()):
                    good = other in isolating_sides(network, groups, number)
                    told = self.steady(check_isolating, network, terminals, number, flow, other)
                    self.assertIs(told, good and side_capacity(network, other, False) == value)
                    counts[told] += 1
                for other in changed_lists(flow, 3):
                    told = self.steady(check_isolating, network, terminals, number, other, side)
                    self.assertIs(told, value_of(network, groups, number, other) == value)
                    counts[told] += 1
        self.assertGreater(min(counts), 30)

    def test_each_condition_alone(self):
        self.assertIs(check_isolating(LINE, [0, 3], 0, [2, -2, 2], [0, 1]), True)
        self.assertIs(check_isolating(LINE, [0, 3], 1, [-2, 2, -2], [2, 3]), True)
        self.assertIs(check_isolating(LINE, [0, 3], 0, [1, -1, 1], [0, 1]), False)
        self.assertIs(check_isolating(LINE, [0, 3], 1, [2, -2, 2], [2, 3]), False)
        self.assertIs(check_isolating(LINE, [0, 3], 0, [2, -1, 2], [0, 1]), False)
        self.assertIs(check_isolating(LINE, [0, 3], 0, [2, -2], [0, 1]), False)
        self.assertIs(check_isolating(LINE, [0, 3], 0, [2, -2, 2], [0]), False)
        self.assertIs(check_isolating(LINE, [0, 3], 0, [2, -2, 2], [1, 0]), False)
        self.assertIs(check_isolating(LINE, [0, 3], 0, [2, -2, 2], [2, 3]), False)
        self.assertIs(check_isolating(LINE, [0, 3], 0, [0, 0, 0], [0, 1, 2, 3]), False)
        self.assertIs(check_isolating(LINE, [0, 3], 0, [0, 0, 0], []), False)
        self.assertIs(check_isolating(LINE, [0, 3], 0, [2, -2, 2], [0, 1, 4]), False)
        self.assertIs(check_isolating(LINE, [0, 3], 0, [2, -2, 2], [-1, 0, 1]), False)


class Errors(Case):
    def fails_all(self, error, at, network, terminals, number):
        self.fails(error, at, isolating_cut, network, terminals, number)
        self.fails(error, at, check_isolating, network, terminals, number, [99], [99])

    def test_numbers_of_terminals(self):
        wide = Network(12, [])
        for many in (0, 1, 9, 12):
            self.fails_all(OutOfRange, many, wide, list(range(many)), 99)
        self.fails_all(OutOfRange, 1, wide, [99], 99)
        self.assertEqual(isolating_cut(wide, list(range(8)), 7), (0, [], [7]))

    def test_terminals(self):
        for terminals, at in (([0, 0], 1), ([1, 0], 1), ([-1, 0], 0), ([0, 4], 1), ([0, 2, 1, 9], 2), ([4, 5], 0),
                              ([0, 1, 10 ** 20], 2)):
            self.fails_all(BadTerminal, at, LINE, terminals, 99)

    def test_the_number_of_the_terminal(self):
        for number in (-1, 2, 3, -2, 10 ** 20):
            self.fails_all(BadTerminal, number, LINE, [0, 3], number)


if __name__ == "__main__":
    unittest.main()
