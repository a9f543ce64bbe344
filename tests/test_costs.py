"""Flows of least cost (points 208 and 209)."""

import random
from itertools import product

from tests.cases import Case
from tests.samples import MILLION, changed_lists, great_network, small_networks
from trunkweb.errors import BadPrice, BadVertex, OutOfRange, SameVertex, TooMuch
from trunkweb.flows.costs import cheapest_flow, check_cheapest, cost_steps
from trunkweb.networks.network import Network


def out_at(network, vertex, flow):
    """What flows out at a vertex, less what flows in."""
    return sum(amount * ((u == vertex) - (v == vertex)) for (u, v, _), amount in zip(network.edges(), flow))


def is_flow(network, capacities, start, goal, flow):
    """Whether a list is a flow within the capacities."""
    if len(flow) != len(capacities) or any(not 0 <= x <= most for x, most in zip(flow, capacities)):
        return False
    return all(out_at(network, v, flow) == 0 for v in range(network.size()) if v not in (start, goal))


def cost_of(network, flow):
    """The cost of a flow."""
    return sum(amount * edge[2] for edge, amount in zip(network.edges(), flow))


def accepted(network, capacities, flow, potentials):
    """Point 208, word by word."""
    if len(potentials) != network.size():
        return False
    for (x, y, c), most, amount in zip(network.edges(), capacities, flow):
        if amount < most and not potentials[x] + c >= potentials[y]:
            return False
        if amount > 0 and not potentials[x] + c <= potentials[y]:
            return False
    return True


def all_flows(network, capacities, start, goal):
    """All flows, tried one by one."""
    lists = [list(flow) for flow in product(*[range(most + 1) for most in capacities])]
    return [flow for flow in lists if is_flow(network, capacities, start, goal, flow)]


def least_costs(network, capacities):
    """The list of the least costs of the values 0, 1, 2, .. from the vertex 0 to the vertex 1."""
    costs = {}
    for flow in all_flows(network, capacities, 0, 1):
        value = out_at(network, 0, flow)
        costs[value] = min(cost_of(network, flow), costs.get(value, cost_of(network, flow)))
    return [costs[value] for value in range(max(costs) + 1)]


def samples(seed, count, prices=(0, 1, 3, 9)):
    """Pairs of a small network and capacities."""
    dice = random.Random(seed)
    for network in small_networks(seed, count, (2, 5), (0, 6), prices):
        yield network, [dice.choice((0, 1, 1, 2, 2)) for _ in network.edges()]


class Small(Case):
    def test_against_all_flows(self):
        for network, capacities in samples(71, 120):
            costs = least_costs(network, capacities)
            for amount, least in enumerate(costs):
                cost, flow, potentials = self.steady(cheapest_flow, network, capacities, 0, 1, amount)
                self.assertEqual(cost, least)
                self.assertTrue(is_flow(network, capacities, 0, 1, flow))
                self.assertEqual((out_at(network, 0, flow), cost_of(network, flow)), (amount, cost))
                self.assertTrue(accepted(network, capacities, flow, potentials))
                self.assertIs(self.steady(check_cheapest, network, capacities, 0, 1, flow, potentials), True)
            for more in (1, 2, 2 ** 32 - len(costs)):
                amount = len(costs) - 1 + more
                self.fails(TooMuch, len(costs) - 1, cheapest_flow, network, capacities, 0, 1, amount)

    def test_steps(self):
        for network, capacities in samples(72, 150):
            costs = least_costs(network, capacities)
            steps = self.steady(cost_steps, network, capacities, 0, 1)
            told = [price for count, price in steps for _ in range(count)]
            self.assertEqual(told, [more - less for less, more in zip(costs, costs[1:])])
            prices = [price for _, price in steps]
            self.assertEqual(prices, sorted(set(prices)))
            self.assertTrue(all(count >= 1 and type(step) is tuple for step in steps for count in step[:1]))

    def test_the_check(self):
        dice = random.Random(73)
        good = 0
        for network, capacities in samples(74, 60, (0, 1, 2)):
            costs = least_costs(network, capacities)
            for flow in all_flows(network, capacities, 0, 1)[:40]:
                best = cheapest_flow(network, capacities, 0, 1, max(0, out_at(network, 0, flow)))[2]
                lists = [best, [0] * network.size(), best + [0], best[:-1], []]
                lists += [[other + dice.randint(-1, 1) for other in best] for _ in range(5)]
                for potentials in lists:
                    expected = accepted(network, capacities, flow, potentials)
                    given = (network, capacities, 0, 1, flow, potentials)
                    self.assertIs(check_cheapest(*given), expected)
                    if expected and 0 <= out_at(network, 0, flow):
                        good += 1
                        self.assertEqual(cost_of(network, flow), costs[out_at(network, 0, flow)])
        self.assertGreater(good, 100)

    def test_changed_flows(self):
        for network, capacities in samples(75, 60):
            many = len(least_costs(network, capacities)) - 1
            _, flow, potentials = cheapest_flow(network, capacities, 0, 1, many)
            for other in list(changed_lists(flow, 2)) + [[], flow + [0], [-x for x in flow]]:
                expected = is_flow(network, capacities, 0, 1, other) and accepted(
                    network, capacities, other, potentials)
                self.assertIs(check_cheapest(network, capacities, 0, 1, other, potentials), expected)


class Edges(Case):
    def test_amount_zero(self):
        network = Network(3, [(0, 1, 4), (1, 2, 0)])
        cost, flow, potentials = cheapest_flow(network, [2, 3], 0, 2, 0)
        self.assertEqual((cost, flow), (0, [0, 0]))
        self.assertTrue(check_cheapest(network, [2, 3], 0, 2, flow, potentials))
        self.assertEqual(cheapest_flow(Network(2, []), [], 0, 1, 0)[:2], (0, []))
        self.fails(TooMuch, 0, cheapest_flow, Network(2, []), [], 0, 1, 1)

    def test_vertices_that_cannot_be_reached(self):
        network = Network(5, [(3, 2, 1), (4, 3, 2), (0, 1, 7), (3, 1, 1)])
        cost, flow, potentials = cheapest_flow(network, [9, 9, 5, 9], 0, 1, 5)
        self.assertEqual((cost, flow), (35, [0, 0, 5, 0]))
        self.assertTrue(check_cheapest(network, [9, 9, 5, 9], 0, 1, flow, potentials))

    def test_steps(self):
        network = Network(4, [(0, 1, 1), (1, 3, 1), (0, 2, 1), (2, 3, 1), (0, 3, 9), (1, 2, 0)])
        self.assertEqual(cost_steps(network, [2, 1, 1, 3, 4, 9], 0, 3), [(3, 2), (4, 9)])
        self.assertEqual(cost_steps(network, [0] * 6, 0, 3), [])
        self.assertEqual(cost_steps(network, [MILLION] * 6, 3, 0), [])
        self.assertEqual(cost_steps(Network(2, [(0, 1, 0)]), [MILLION], 0, 1), [(MILLION, 0)])

    def test_a_unit_that_takes_another_way_back(self):
        network = Network(4, [(0, 1, 1), (0, 2, 5), (1, 2, 1), (1, 3, 5), (2, 3, 1)])
        self.assertEqual(cost_steps(network, [1, 1, 1, 1, 1], 0, 3), [(1, 3), (1, 9)])
        self.assertEqual(cheapest_flow(network, [1] * 5, 0, 3, 2)[:2], (12, [1, 1, 0, 1, 1]))

    def test_great(self):
        for seed in range(4):
            network = great_network(76 + seed, most=(3, 100, MILLION, MILLION)[seed])
            dice = random.Random(seed)
            capacities = [dice.randint(0, (MILLION, 5, 9, MILLION)[seed]) for _ in range(200)]
            steps = cost_steps(network, capacities, 0, 39)
            value = sum(count for count, _ in steps)
            self.fails(TooMuch, value, cheapest_flow, network, capacities, 0, 39, value + 1)
            for amount in (0, 1, value // 2, value):
                cost, flow, potentials = cheapest_flow(network, capacities, 0, 39, amount)
                self.assertTrue(check_cheapest(network, capacities, 0, 39, flow, potentials))
                self.assertEqual((out_at(network, 0, flow), cost_of(network, flow)), (amount, cost))
                left = amount
                for count, price in steps:
                    cost -= min(left, count) * price
                    left -= min(left, count)
                self.assertEqual((cost, left), (0, 0))


class Errors(Case):
    def test_errors(self):
        network = Network(3, [(0, 1, 4), (1, 2, 3)])
        for call, given in ((cheapest_flow, (99,)), (check_cheapest, ([5], [6])), (cost_steps, ())):
            for many in (0, 1, 3, 4):
                self.fails(OutOfRange, many, call, network, [-1] * many, 9, 9, *given)
            for bad in (-1, MILLION + 1, 2 ** 40):
                self.fails(BadPrice, 0, call, network, [bad, -1], 9, 9, *given)
                self.fails(BadPrice, 1, call, network, [MILLION, bad], 9, 9, *given)
            for bad in (3, -1, 40):
                self.fails(BadVertex, bad, call, network, [1, 1], bad, 7, *given)
                self.fails(BadVertex, bad, call, network, [1, 1], bad, bad, *given)
                self.fails(BadVertex, bad, call, network, [1, 1], 0, bad, *given)
            self.fails(SameVertex, 2, call, network, [1, 1], 2, 2, *given)
        self.fails(TooMuch, 1, cheapest_flow, network, [1, 1], 0, 2, 2)
        self.fails(TooMuch, 0, cheapest_flow, network, [1, 1], 2, 0, 1)
