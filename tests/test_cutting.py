"""Cut programs and their certificates (points 607 to 609)."""

import random
from fractions import Fraction

from tests.cases import Case
from tests.programs import changed_values, pair
from tests.samples import changed_lists, reach, small_networks, sublists
from tests.test_steiner_trees import lists_of
from trunkweb.errors import BadTerminal, BadVertex, TooMany
from trunkweb.networks.network import Network
from trunkweb.networks.paths import least_prices
from trunkweb.programs.cutting import check_cut_bound, cut_bound
from trunkweb.programs.fractions import is_fraction
from trunkweb.programs.program import Program
from trunkweb.programs.simplex import solve
from trunkweb.steiner.arborescences import told_arborescence as steiner_arborescence
from trunkweb.trees.arborescences import told_arborescence
from trunkweb.trees.spanning import forest_price, told_forest

BOTH = (True, False)


def ways_of(network, arcs):
    """Point 607: the ways."""
    return [way for u, v, price in network.edges() for way in ([(u, v, price)] if arcs else [(u, v, price), (v, u, price)])]


def sides_of(network, root, terminals):
    """All sides."""
    others = [v for v in range(network.size()) if v != root]
    return [side for side in sublists(others) if set(side) & set(terminals)]


def whole_program(network, arcs, root, terminals):
    """The cut program with a row for each side."""
    ways = ways_of(network, arcs)
    rows = [([int(v in side and u not in side) for u, v, _ in ways], "least", 1)
            for side in sides_of(network, root, terminals)]
    return Program([price for _, _, price in ways], rows)


def is_unit(network, ways, root, terminal, flow, values):
    """Point 608: whether a list is a flow of 1 within values."""
    if len(flow) != len(ways):
        return False
    if any(Fraction(*part) < 0 or Fraction(*part) > Fraction(*most) for part, most in zip(flow, values)):
        return False
    for vertex in range(network.size()):
        excess = sum(Fraction(*part) * ((v == vertex) - (u == vertex)) for (u, v, _), part in zip(ways, flow))
        if excess != (vertex == terminal) - (vertex == root):
            return False
    return True


def shows(network, arcs, root, terminals, bound, certificate):
    """Point 608, word by word."""
    ways = ways_of(network, arcs)
    values, cuts, flows = certificate
    if len(values) != len(ways) or len(flows) != len(terminals) or any(Fraction(*value) < 0 for value in values):
        return False
    for terminal, flow in zip(terminals, flows):
        if not is_unit(network, ways, root, terminal, flow, values):
            return False
    for side, weight in cuts:
        if sorted(set(side)) != side or not set(side) <= set(range(network.size())):
            return False
        if root in side or not set(side) & set(terminals) or Fraction(*weight) < 0:
            return False
    for u, v, price in ways:
        if sum(Fraction(*weight) for side, weight in cuts if v in side and u not in side) > price:
            return False
    value = sum(price * Fraction(*value) for (_, _, price), value in zip(ways, values))
    return sum(Fraction(*weight) for _, weight in cuts) == value == Fraction(*bound)


def samples(seed, count, sizes=(1, 5), many=(0, 9), prices=(0, 1, 3, 9)):
    """Tuples of a small network, arcs, a root and terminals."""
    dice = random.Random(seed)
    for network in small_networks(seed, count, sizes, many, prices):
        vertices = list(range(network.size()))
        root = vertices.pop(dice.randrange(network.size()))
        yield network, dice.choice(BOTH), root, sorted(dice.sample(vertices, dice.randint(0, len(vertices))))


class Bounds(Case):
    def bound(self, network, arcs, root, terminals):
        """Test all that is promised of what is told; return the bound or None."""
        told = self.steady(cut_bound, network, arcs, root, terminals)
        if not set(terminals) <= reach(network, root, arcs):
            self.assertIsNone(told)
            return None
        bound, *certificate = told
        self.assertTrue(is_fraction(bound) and all(is_fraction(value) for value in certificate[0]))
        self.assertTrue(all(weight[0] > 0 and is_fraction(weight) for _, weight in certificate[1]))
        self.assertTrue(shows(network, arcs, root, terminals, bound, certificate))
        told = self.steady(check_cut_bound, network, arcs, root, terminals, bound, tuple(certificate))
        self.assertIs(told, True)
        return bound

    def test_small(self):
        none = 0
        for given in samples(321, 800, (1, 7), (0, 14)):
            none += self.bound(*given) is None
        self.assertGreater(none, 100)

    def test_against_the_whole_program(self):
        for network, arcs, root, terminals in samples(322, 250, (2, 5), (1, 9)):
            bound = self.bound(network, arcs, root, terminals)
            told = solve(whole_program(network, arcs, root, terminals))
            self.assertEqual(told[0] == "none", bound is None)
            if bound is not None:
                self.assertEqual(told[1], bound)

    def test_no_ways_are_cheaper(self):
        for network, _, root, terminals in samples(323, 150, (2, 5), (2, 8)):
            bound = self.bound(network, True, root, terminals)
            for numbers in lists_of(network):
                if set(terminals) <= reach(network, root, True, numbers):
                    self.assertLessEqual(Fraction(*bound), sum(network.edges()[k][2] for k in numbers))

    def test_one_terminal(self):
        for network, arcs, root, terminals in samples(324, 300, (2, 8), (2, 16)):
            for terminal in terminals[:1]:
                price = least_prices(network, root, arcs)[terminal]
                self.assertEqual(self.bound(network, arcs, root, [terminal]), None if price is None else (price, 1))

    def test_all_vertices(self):
        for network, arcs, root, _ in samples(325, 300, (1, 8), (2, 18)):
            bound = self.bound(network, arcs, root, [v for v in range(network.size()) if v != root])
            if bound is not None:
                least = told_arborescence(network, root) if arcs else told_forest(network)
                self.assertEqual(bound, (forest_price(network, least), 1))

    def test_no_terminals(self):
        for network in (Network(1, []), Network(3, [(0, 1, 5), (1, 2, 0)])):
            for arcs in BOTH:
                self.assertEqual(self.bound(network, arcs, 0, []), (0, 1))
                self.assertEqual(cut_bound(network, arcs, 0, [])[2:], ([], []))

    def test_bounds_that_are_not_whole(self):
        halves = [(0, 1, 1), (0, 2, 1), (0, 3, 1)]
        for price, bound in ((0, (3, 2)), (1, (9, 2)), (3, (21, 2))):
            ends = [(a, t, price) for t, some in ((4, (1, 2)), (5, (2, 3)), (6, (1, 3))) for a in some]
            network = Network(7, halves + ends)
            self.assertEqual(self.bound(network, True, 0, [4, 5, 6]), bound)
            tree = steiner_arborescence(network, 0, [4, 5, 6])
            self.assertEqual(forest_price(network, tree), 2 + 3 * price)
        # Each terminal has ways from three of seven vertices, any two terminals from one and the same.
        lines = [(1, 2, 3), (1, 4, 5), (1, 6, 7), (2, 4, 6), (2, 5, 7), (3, 4, 7), (3, 5, 6)]
        edges = [(0, p, 1) for p in range(1, 8)] + [(p, 8 + k, 0) for k, line in enumerate(lines) for p in line]
        self.assertEqual(self.bound(Network(15, edges), True, 0, list(range(8, 15))), (7, 3))

    def test_forty_ways(self):
        dice = random.Random(326)
        for arcs, many in ((True, 40), (False, 20)):
            for size in (8, 13, 20):
                for most in (0, 1, 20, 2 ** 20):
                    edges = [(dice.randrange(v), v, dice.randint(0, most)) for v in range(1, size)]
                    while len(edges) < many:
                        edges.append((*dice.sample(range(size), 2), dice.randint(0, most)))
                    network = Network(size, dice.sample(edges, many))
                    for count in (2, size // 2, size - 1):
                        self.bound(network, arcs, 0, sorted(dice.sample(range(1, size), count)))
        network = Network(40, [(v, v + 1, 5) for v in range(39)] + [(0, 39, 7)])
        self.assertEqual(self.bound(network, True, 0, list(range(1, 40))), (195, 1))
        self.assertEqual(self.bound(network, True, 0, [20, 39]), (107, 1))


class Checks(Case):
    network = Network(7, [(0, 1, 1), (0, 2, 1), (0, 3, 1), (1, 4, 0), (2, 4, 0), (2, 5, 0), (3, 5, 0), (1, 6, 0), (3, 6, 0)])
    terminals = [4, 5, 6]
    half = (1, 2)
    values = [half] * 9
    cuts = [([1, 2, 4], half), ([2, 3, 5], half), ([1, 3, 6], half)]
    flows = [[half, half, (0, 1), half, half] + [(0, 1)] * 4,
             [(0, 1), half, half, (0, 1), (0, 1), half, half, (0, 1), (0, 1)],
             [half, (0, 1), half] + [(0, 1)] * 4 + [half, half]]

    def told(self, bound=(3, 2), values=None, cuts=None, flows=None, network=None):
        network = network or self.network
        certificate = (self.values if values is None else values, self.cuts if cuts is None else cuts,
                       self.flows if flows is None else flows)
        told = self.steady(check_cut_bound, network, True, 0, self.terminals, bound, certificate)
        self.assertIs(told, shows(network, True, 0, self.terminals, bound, certificate))
        return told

    def test_good(self):
        self.assertIs(self.told(), True)

    def test_another_bound(self):
        for bound in ((1, 1), (2, 1), (7, 5), (0, 1), (-3, 2)):
            self.assertIs(self.told(bound), False)

    def test_values(self):
        self.assertIs(self.told(values=self.values[:3] + [(1, 1)] * 6), True)
        self.assertIs(self.told(values=[(1, 1)] * 9), False)
        self.assertIs(self.told((3, 1), values=[(1, 1)] * 9), False)
        self.assertIs(self.told(values=self.values[:3] + [(2, 5)] * 6), False)
        for values in changed_values(self.values, 3):
            self.assertIs(self.told(values=values), False)
        for values in changed_values(self.values, 9):
            self.told(values=values)

    def test_values_below_zero(self):
        # A way that no flow needs, and that costs something.
        network = Network(2, [(0, 1, 1), (1, 0, 1)])
        certificate = ([(1, 1), (-1, 1)], [], [[(1, 1), (0, 1)]])
        self.assertIs(check_cut_bound(network, True, 0, [1], (0, 1), certificate), False)
        certificate = ([(1, 1), (0, 1)], [([1], (1, 1))], [[(1, 1), (0, 1)]])
        self.assertIs(check_cut_bound(network, True, 0, [1], (1, 1), certificate), True)
        # Without terminals there are no flows that would show it.
        for value, good in (((0, 1), True), ((3, 1), True), ((-1, 3), False)):
            certificate = ([value, (0, 1)], [], [])
            self.assertIs(check_cut_bound(network.with_price(0, 0), True, 0, [], (0, 1), certificate), good)

    def test_flows(self):
        for k in range(3):
            for flow in changed_values(self.flows[k], 9):
                self.assertIs(self.told(flows=self.flows[:k] + [flow] + self.flows[k + 1:]), flow == self.flows[k])
        for flows in ([], self.flows[:2], self.flows + self.flows[:1], self.flows[::-1], [[]] * 3, [self.flows[0]] * 3):
            self.assertIs(self.told(flows=flows), False)

    def test_flows_that_go_round(self):
        # All vertices but the two have as much that arrives as leaves.
        network = Network(4, [(0, 1, 1), (2, 3, 0), (3, 2, 0)])
        cuts = [([1], (1, 1))]
        for around in ((0, 1), (1, 2), (1, 1)):
            certificate = ([(1, 1)] * 3, cuts, [[(1, 1), around, around]])
            self.assertIs(check_cut_bound(network, True, 0, [1], (1, 1), certificate), True)
        for one, two in (((0, 1), (1, 2)), ((-1, 2), (-1, 2)), ((3, 2), (3, 2))):
            certificate = ([(1, 1)] * 3, cuts, [[(1, 1), one, two]])
            self.assertIs(check_cut_bound(network, True, 0, [1], (1, 1), certificate), False)

    def test_a_flow_of_another_value(self):
        network = Network(3, [(0, 1, 1), (1, 2, 0)])
        for value, good in (((1, 1), True), ((1, 2), False), ((3, 2), False), ((0, 1), False)):
            certificate = ([(1, 1)] * 2, [([1, 2], (1, 1))], [[value, value]])
            self.assertIs(check_cut_bound(network, True, 0, [2], (1, 1), certificate), good)
            certificate = ([(2, 1)] * 2, [([1, 2], (1, 1))], [[value, value]])
            self.assertIs(check_cut_bound(network, True, 0, [2], (2, 1), certificate), False)

    def test_sides(self):
        for side in ([0, 1, 2, 4], [1, 2, 3], [], [2, 1, 4], [1, 1, 2, 4], [1, 2, 4, 7], [-1, 1, 2, 4], [4, 10 ** 20]):
            self.assertIs(self.told(cuts=self.cuts[1:] + [(side, self.half)]), False)
            self.assertIs(self.told(cuts=self.cuts + [(side, (0, 1))]), False)
        self.assertIs(self.told(cuts=self.cuts + [([4], (0, 1))]), True)
        self.assertIs(self.told(cuts=self.cuts + [([1, 2, 4], (0, 1))]), True)
        for side in changed_lists([1, 2, 4], 7):
            self.told(cuts=self.cuts[1:] + [(side, self.half)])

    def test_weights(self):
        for weight in ((1, 3), (1, 1), (0, 1), (-1, 2)):
            self.assertIs(self.told(cuts=self.cuts[:2] + [([1, 3, 6], weight)]), False)
        self.assertIs(self.told(cuts=[]), False)
        self.assertIs(self.told(cuts=self.cuts[:2]), False)
        self.assertIs(self.told(cuts=self.cuts + [([1, 2, 4], (-1, 2)), ([2, 3, 5], (1, 2))]), False)
        for one, two, good in (((1, 1), (-1, 2), False), ((0, 1), (1, 2), True), ((1, 3), (1, 6), True)):
            cuts = [([1, 2, 4], one), ([1, 2, 4], two)] + self.cuts[1:]
            self.assertIs(self.told(cuts=cuts), good)
        # The sum is right, but a way costs too little for the sides that it enters.
        self.assertIs(self.told(cuts=[([1, 2, 3, 4, 5, 6], (3, 2))]), False)
        self.assertIs(self.told(cuts=[([1, 2, 3, 4, 5, 6], (1, 1)), ([1, 2, 4], (1, 2))]), False)
        self.assertIs(self.told(cuts=[(side, (1, 4)) for side, _ in self.cuts * 2]), True)

    def test_the_certificates_of_other_networks(self):
        for network, arcs, root, terminals in samples(327, 200, (2, 5), (2, 9)):
            told = cut_bound(network, arcs, root, terminals)
            if told is not None:
                bound, *certificate = told
                for number, edge in enumerate(network.edges()):
                    other = network.with_price(number, edge[2] + 1)
                    answer = check_cut_bound(other, arcs, root, terminals, bound, tuple(certificate))
                    self.assertIs(answer, shows(other, arcs, root, terminals, bound, certificate))
                    if edge[2]:
                        other = network.with_price(number, edge[2] - 1)
                        answer = check_cut_bound(other, arcs, root, terminals, bound, tuple(certificate))
                        self.assertIs(answer, shows(other, arcs, root, terminals, bound, certificate))
                for change in (1, -1, Fraction(1, 2)):
                    other = pair(Fraction(*bound) + change)
                    self.assertIs(check_cut_bound(network, arcs, root, terminals, other, tuple(certificate)), False)


class Faults(Case):
    def test_errors_in_their_order(self):
        certificate = ([], [([], (-1, 1))], [])
        for arcs, many in ((True, 41), (False, 21)):
            network = Network(10, [(0, 1, 3)] * many)
            for call, given in ((cut_bound, ()), (check_cut_bound, ((0, 1), certificate))):
                for root in (-1, 10, 10 ** 20):
                    self.fails(BadVertex, root, call, network, arcs, root, [99, -1], *given)
                for terminals, at in (([10], 0), ([-1], 0), ([5], 0), ([4, 5], 1), ([1, 1], 1), ([2, 1, 99], 1),
                                      ([1, 2, 10 ** 20], 2), ([1, 3, 2, 5], 2), ([0, 4, 6, 5], 3)):
                    self.fails(BadTerminal, at, call, network, arcs, 5, terminals, *given)
                self.fails(TooMany, 41 if arcs else 42, call, network, arcs, 5, [1, 2], *given)
                self.fails(TooMany, 41 if arcs else 42, call, network, arcs, 5, [], *given)

    def test_at_the_greatest_number_of_ways(self):
        for arcs, many in ((True, 40), (False, 20)):
            network = Network(2, [(0, 1, 3)] * many)
            self.assertEqual(cut_bound(network, arcs, 0, [1])[0], (3, 1))
        network = Network(40, [(0, 1, 3)] * 200)
        self.fails(TooMany, 200, cut_bound, network, True, 0, [1])
        self.fails(TooMany, 400, cut_bound, network, False, 0, [1])

    def test_certificates_of_other_sizes(self):
        network = Network(2, [(0, 1, 3)])
        good = ([(1, 1)], [([1], (3, 1))], [[(1, 1)]])
        self.assertIs(check_cut_bound(network, True, 0, [1], (3, 1), good), True)
        for values in ([], [(1, 1), (0, 1)]):
            self.assertIs(check_cut_bound(network, True, 0, [1], (3, 1), (values, good[1], good[2])), False)
        for flows in ([], [[]], [[(1, 1), (0, 1)]], [[(1, 1)], [(1, 1)]], [[(1, 1)], []]):
            self.assertIs(check_cut_bound(network, True, 0, [1], (3, 1), (good[0], good[1], flows)), False)
        self.assertIs(check_cut_bound(network, False, 0, [1], (3, 1), good), False)
