"""Vertex cuts, packings of paths, and the connectivity (points 910 to 912)."""

import random
import time
import unittest

from tests.cases import Case
from tests.programs import MILLION
from tests.samples import changed_lists, random_network, reach, small_networks, steps_from, sublists
from trunkweb.errors import BadPrice, BadVertex, Joined, OutOfRange, SameVertex
from trunkweb.multicuts.vertices import check_vertex_cut, connectivity, least_vertex_cut, nearest_vertex_cut, weakest
from trunkweb.networks.network import Network

# Two ways from 0 to 5: by 1 and 3, by 2 and 4; an edge joins 1 and 4.
TWO = Network(6, [(0, 1, 9), (1, 3, 9), (3, 5, 9), (0, 2, 9), (2, 4, 9), (4, 5, 9), (4, 1, 9)])


def without(network, cut):
    """The numbers of the edges that have no end in a cut."""
    return [number for number, (u, v, _) in enumerate(network.edges()) if u not in cut and v not in cut]


def is_cut(network, start, goal, cut):
    """Point 910: whether an ascending list of other vertices is a vertex cut."""
    return start not in cut and goal not in cut and goal not in reach(network, start, False, without(network, cut))


def vertex_cuts(network, start, goal):
    """All vertex cuts."""
    return [cut for cut in sublists(range(network.size())) if is_cut(network, start, goal, cut)]


def weight_of(weights, cut):
    """The sum of the weights of vertices."""
    return sum(weights[vertex] for vertex in cut)


def vertices_on(network, start, path):
    """The vertices to which a list of edges leads one after the other, or None if it is no path."""
    passed = [start]
    for number in path:
        steps = dict(steps_from(network, passed[-1], False))
        if number not in steps:
            return None
        passed.append(steps[number])
    return passed


def is_packing(network, weights, start, goal, rows):
    """Point 910, word by word."""
    loads = [0] * network.size()
    for amount, path in rows:
        passed = vertices_on(network, start, path)
        if amount < 1 or passed is None or passed[-1] != goal:
            return False
        for vertex in set(passed):
            loads[vertex] += amount
    return all(loads[vertex] <= weights[vertex] for vertex in range(network.size()) if vertex not in (start, goal))


def is_shown(network, weights, start, goal, cut, rows):
    """Point 911, word by word."""
    if cut not in vertex_cuts(network, start, goal) or not is_packing(network, weights, start, goal, rows):
        return False
    return weight_of(weights, cut) == sum(amount for amount, _ in rows)


def some_ends(seed, count, least=0, sizes=(2, 6), many=(0, 11)):
    """Small networks with weights, a start and a goal that no edge joins."""
    dice = random.Random(seed)
    for network in small_networks(seed, count, sizes, many):
        pairs = {frozenset(edge[:2]) for edge in network.edges()}
        free = [(u, v) for u in range(network.size()) for v in range(network.size())
                if u != v and frozenset((u, v)) not in pairs]
        if free:
            most = dice.choice((1, 2, 5))
            weights = [dice.randint(least, most) for _ in range(network.size())]
            yield network, weights, *dice.choice(free)


class LeastCuts(Case):
    def test_against_all_cuts(self):
        counts = [0, 0]
        for network, weights, start, goal in some_ends(511, 700):
            value, cut, rows = self.steady(least_vertex_cut, network, weights, start, goal)
            least = min(weight_of(weights, known) for known in vertex_cuts(network, start, goal))
            self.assertEqual(value, least)
            self.assertIn(cut, vertex_cuts(network, start, goal))
            self.assertEqual(weight_of(weights, cut), least)
            self.assertTrue(is_packing(network, weights, start, goal, rows))
            self.assertEqual(sum(amount for amount, _ in rows), least)
            self.assertIs(self.steady(check_vertex_cut, network, weights, start, goal, cut, rows), True)
            counts[value > 1] += 1
        self.assertGreater(min(counts), 100)

    def test_two_ways(self):
        value, cut, rows = least_vertex_cut(TWO, [0, 3, 1, 1, 5, 0], 0, 5)
        self.assertEqual((value, sum(amount for amount, _ in rows)), (4, 4))
        self.assertEqual(cut, [1, 2])
        self.assertEqual(least_vertex_cut(TWO, [7, 1, 1, 1, 0, 9], 0, 5)[0], 1)
        # The weights of the start and the goal, and the prices of edges, play no part.
        self.assertEqual(least_vertex_cut(TWO, [0] * 6, 5, 0)[0::2], (0, []))
        self.assertEqual(least_vertex_cut(TWO, [MILLION] * 6, 0, 5)[0], 2 * MILLION)

    def test_ways_that_must_be_taken_back(self):
        # The shortest path goes by 1, 2 and 3; but only by 1 and by 3 there are two paths apart.
        edges = [(0, 1), (1, 2), (2, 3), (3, 4), (0, 5), (5, 6), (6, 7), (7, 3), (1, 8), (8, 9), (9, 10), (10, 4)]
        for turned in (False, True):
            network = Network(11, [(v, u, 1) if turned else (u, v, 1) for u, v in edges])
            for weight in (1, 2):
                for start, goal in ((0, 4), (4, 0)):
                    weights = [weight] * 11
                    value, cut, rows = least_vertex_cut(network, weights, start, goal)
                    self.assertEqual(value, 2 * weight)
                    self.assertIs(check_vertex_cut(network, weights, start, goal, cut, rows), True)

    def test_small_weights_in_greater_networks(self):
        dice = random.Random(518)
        for _ in range(150):
            network = random_network(dice, dice.randint(8, 20), dice.randint(12, 45), 9)
            pairs = {frozenset(edge[:2]) for edge in network.edges()}
            start, goal = dice.sample(range(network.size()), 2)
            if frozenset((start, goal)) not in pairs:
                weights = [dice.choice((1, 1, 1, 2)) for _ in range(network.size())]
                value, cut, rows = least_vertex_cut(network, weights, start, goal)
                self.assertIs(check_vertex_cut(network, weights, start, goal, cut, rows), True)
                self.assertEqual(value, weight_of(weights, cut))

    def test_no_path(self):
        self.assertEqual(least_vertex_cut(Network(3, [(0, 1, 1)]), [1, 1, 1], 0, 2), (0, [], []))
        self.assertEqual(nearest_vertex_cut(Network(3, [(0, 1, 1)]), [1, 1, 1], 0, 2), [])
        self.assertEqual(least_vertex_cut(Network(2, []), [0, 0], 1, 0), (0, [], []))

    def test_great_networks(self):
        dice = random.Random(512)
        before = time.perf_counter()
        for many in (60, 120, 200):
            network = random_network(dice, 40, many, 9)
            pairs = {frozenset(edge[:2]) for edge in network.edges()}
            weights = [dice.randint(1, MILLION) for _ in range(40)]
            for goal in range(1, 40, 5):
                if frozenset((0, goal)) not in pairs:
                    value, cut, rows = least_vertex_cut(network, weights, 0, goal)
                    self.assertIs(check_vertex_cut(network, weights, 0, goal, cut, rows), True)
                    self.assertEqual(value, weight_of(weights, cut))
                    near = nearest_vertex_cut(network, weights, 0, goal)
                    self.assertIs(check_vertex_cut(network, weights, 0, goal, near, rows), True)
        self.assertLess(time.perf_counter() - before, 30)


class NearestCuts(Case):
    def test_against_all_least_cuts(self):
        several = 0
        for network, weights, start, goal in some_ends(513, 600, 1, (4, 7), (4, 12)):
            known = vertex_cuts(network, start, goal)
            least = min(weight_of(weights, cut) for cut in known)
            known = [cut for cut in known if weight_of(weights, cut) == least]
            told = self.steady(nearest_vertex_cut, network, weights, start, goal)
            self.assertIn(told, known)
            near = reach(network, start, False, without(network, told))
            for cut in known:
                self.assertLessEqual(near, reach(network, start, False, without(network, cut)))
            several += len(known) > 1
        self.assertGreater(several, 40)

    def test_a_line(self):
        line = Network(5, [(k, k + 1, 1) for k in range(4)])
        self.assertEqual(nearest_vertex_cut(line, [5, 1, 1, 1, 5], 0, 4), [1])
        self.assertEqual(nearest_vertex_cut(line, [5, 1, 1, 1, 5], 4, 0), [3])
        self.assertEqual(nearest_vertex_cut(line, [5, 2, 1, 1, 5], 0, 4), [2])
        self.assertEqual(nearest_vertex_cut(TWO, [1] * 6, 0, 5), [1, 2])
        self.assertEqual(nearest_vertex_cut(TWO, [1] * 6, 5, 0), [3, 4])


class Checks(Case):
    def test_changed_cuts_and_packings(self):
        counts = [0, 0]
        for network, weights, start, goal in some_ends(514, 80):
            _, cut, rows = least_vertex_cut(network, weights, start, goal)
            others = [(other, rows) for other in changed_lists(cut, network.size())]
            others += [(cut, rows[:-1]), (cut, rows + [(1, [])]), (cut, rows + rows[:1]), (cut, [])]
            for amount, path in rows[:2]:
                for other in changed_lists(path, len(network.edges())):
                    others.append((cut, [(amount, other)] + rows[1:]))
                for other in (amount - 1, amount + 1, 0, -amount):
                    others.append((cut, [(other, path)] + rows[1:]))
            for other, packed in others:
                told = self.steady(check_vertex_cut, network, weights, start, goal, other, packed)
                self.assertIs(told, is_shown(network, weights, start, goal, other, packed))
                counts[told] += 1
        self.assertGreater(min(counts), 20)

    def test_each_condition_alone(self):
        weights = [0, 1, 1, 1, 1, 0]
        rows = [(1, [0, 1, 2]), (1, [3, 4, 5])]
        self.assertIs(check_vertex_cut(TWO, weights, 0, 5, [1, 2], rows), True)
        self.assertIs(check_vertex_cut(TWO, weights, 0, 5, [3, 4], rows), True)
        for cut in ([2, 1], [1, 3], [1], [0, 1], [1, 5], [1, 6], [-1, 1], [1, 1], [1, 2, 3], [2, 3]):
            self.assertIs(check_vertex_cut(TWO, weights, 0, 5, cut, rows), False)
        for bad in (rows[:1], rows + [(0, [0, 1, 2])], [(1, [0, 1, 2]), (1, [0, 6, 5])], [(2, [0, 1, 2])],
                    [(1, [0, 1, 2]), (1, [3, 4])], [(1, [0, 1, 2]), (1, [3, 5])], [(1, [0, 1, 2]), (1, [7])],
                    [(3, [0, 1, 2]), (-1, [3, 4, 5])], [(1, [0, 1, 2]), (1, [3, 4, -2])],
                    [(1, [1, 2]), (1, [3, 4, 5])]):
            self.assertIs(check_vertex_cut(TWO, weights, 0, 5, [1, 2], bad), False)

    def test_a_path_counts_once_for_each_vertex(self):
        line = Network(4, [(0, 1, 1), (1, 2, 1), (1, 3, 1)])
        # From 0 by 1 to 3, back to 1, and to 2.
        round_path = [0, 2, 2, 1]
        self.assertIs(check_vertex_cut(line, [1] * 4, 0, 2, [1], [(1, round_path)]), True)
        self.assertIs(check_vertex_cut(line, [1, 1, 1, 0], 0, 2, [1], [(1, round_path)]), False)
        # A path may come to the start and the goal again, as often as it likes.
        self.assertIs(check_vertex_cut(line, [0, 1, 0, 0], 0, 2, [1], [(1, [0, 0, 0, 1, 1, 1])]), True)
        self.assertIs(check_vertex_cut(line, [0, 2, 0, 0], 0, 2, [1], [(1, [0, 1]), (1, [0, 0, 0, 1])]), True)

    def test_weights_of_0(self):
        self.assertIs(check_vertex_cut(TWO, [0] * 6, 0, 5, [1, 2, 3, 4], []), True)
        self.assertIs(check_vertex_cut(TWO, [0] * 6, 0, 5, [1, 2], []), True)
        self.assertIs(check_vertex_cut(TWO, [0] * 6, 0, 5, [1], []), False)
        self.assertIs(check_vertex_cut(TWO, [0] * 6, 0, 5, [1, 2], [(1, [0, 1, 2])]), False)


class Connectivity(Case):
    def test_by_trying_all_sets(self):
        counts = {}
        for network in small_networks(515, 400, (1, 7), (0, 21)):
            size = network.size()
            known = []
            for cut in sublists(range(size)):
                left = [vertex for vertex in range(size) if vertex not in cut]
                if left and not set(left) <= reach(network, left[0], False, without(network, cut)):
                    known.append(cut)
            told = self.steady(weakest, network)
            least = min((len(cut) for cut in known), default=None)
            self.assertEqual(connectivity(network), size - 1 if least is None else least)
            if least is None:
                self.assertIsNone(told)
            else:
                self.assertIn(told, known)
                self.assertEqual(len(told), least)
            kind = "joined" if least is None else least
            counts[kind] = counts.get(kind, 0) + 1
        for kind in ("joined", 0, 1, 2, 3):
            self.assertGreater(counts[kind], 10)

    def test_edges(self):
        self.assertEqual((connectivity(Network(1, [])), weakest(Network(1, []))), (0, None))
        self.assertEqual((connectivity(Network(2, [])), weakest(Network(2, []))), (0, []))
        self.assertEqual((connectivity(Network(2, [(1, 0, 0)])), weakest(Network(2, [(1, 0, 0)]))), (1, None))
        for size in (3, 5, 8):
            complete = Network(size, [(u, v, 0) for u in range(size) for v in range(u)])
            self.assertEqual((connectivity(complete), weakest(complete)), (size - 1, None))
            ring = Network(size, [(v, (v + 1) % size, 5) for v in range(size)])
            self.assertEqual(connectivity(ring), 2)
        self.assertEqual((connectivity(TWO), len(weakest(TWO))), (2, 2))
        star = Network(5, [(3, 0, 1), (1, 3, 1), (3, 2, 1), (4, 3, 1)])
        self.assertEqual((connectivity(star), weakest(star)), (1, [3]))

    def test_a_cut_far_from_the_first_vertices(self):
        # Two complete parts of 10 vertices each that have the vertices 3 and 4 in common.
        one = [0, 1, 2, 3, 4, 5, 6, 7, 8, 9]
        two = [3, 4, 10, 11, 12, 13, 14, 15, 16, 17]
        network = Network(18, [(u, v, 1) for part in (one, two) for u in part for v in part if u < v])
        self.assertEqual((connectivity(network), weakest(network)), (2, [3, 4]))
        # The first vertices are the cut themselves.
        turned = Network(18, [(17 - u, 17 - v, 1) for u, v, _ in network.edges()])
        self.assertEqual(weakest(turned), [13, 14])
        moved = [17, 16, 15, 0, 1, 14, 13, 12, 11, 10, 9, 8, 7, 6, 5, 4, 3, 2]
        self.assertEqual(weakest(Network(18, [(moved[u], moved[v], 1) for u, v, _ in network.edges()])), [0, 1])

    def test_great_networks(self):
        before = time.perf_counter()
        for seed in (516, 517):
            network = random_network(random.Random(seed), 40, 200, 9)
            cut = weakest(network)
            self.assertEqual(connectivity(network), len(cut))
            left = [vertex for vertex in range(40) if vertex not in cut]
            self.assertFalse(set(left) <= reach(network, left[0], False, without(network, cut)))
        ring = Network(40, [(v, (v + d) % 40, 1) for v in range(40) for d in (1, 2, 3, 4, 5)])
        self.assertEqual(connectivity(ring), 10)
        self.assertLess(time.perf_counter() - before, 60)


class Errors(Case):
    def fails_all(self, error, at, network, weights, start, goal):
        self.fails(error, at, least_vertex_cut, network, weights, start, goal)
        self.fails(error, at, nearest_vertex_cut, network, weights, start, goal)
        self.fails(error, at, check_vertex_cut, network, weights, start, goal, [99], [(0, [99])])

    def test_weights(self):
        for many in (0, 5, 7):
            self.fails_all(OutOfRange, many, TWO, [-1] * many, 9, 9)
        for weight in (-1, MILLION + 1, 10 ** 20):
            self.fails_all(BadPrice, 2, TWO, [1, 1, weight, 1, weight, 1], 9, 9)
            self.fails_all(BadPrice, 5, TWO, [1, 0, 1, 1, 1, weight], 9, 9)
        self.assertEqual(least_vertex_cut(TWO, [MILLION] * 6, 0, 5)[0], 2 * MILLION)

    def test_ends(self):
        for vertex in (-1, 6, 10 ** 20):
            self.fails_all(BadVertex, vertex, TWO, [0] * 6, vertex, 7)
            self.fails_all(BadVertex, vertex, TWO, [0] * 6, 0, vertex)
        self.fails_all(SameVertex, 3, TWO, [0] * 6, 3, 3)
        for start, goal, number in ((0, 1, 0), (1, 0, 0), (4, 1, 6), (1, 4, 6), (5, 4, 5)):
            self.fails_all(Joined, number, TWO, [0] * 6, start, goal)
        twice = Network(3, [(0, 1, 1), (2, 1, 1), (1, 2, 0)])
        self.fails_all(Joined, 1, twice, [1, 1, 1], 1, 2)

    def test_weights_of_0(self):
        for k in range(6):
            weights = [1] * k + [0] * (6 - k)
            self.fails(BadPrice, k, nearest_vertex_cut, TWO, weights, 0, 5)
            self.fails(BadPrice, k, nearest_vertex_cut, TWO, [1] * k + [0] + [1] * (5 - k), 0, 5)
        self.assertEqual(nearest_vertex_cut(TWO, [1] * 6, 0, 5), [1, 2])


if __name__ == "__main__":
    unittest.main()
