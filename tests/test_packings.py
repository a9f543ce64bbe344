"""Packings of paths, and paths that are apart (points 206 and 207)."""

from tests.cases import Case
from tests.samples import (
    MILLION, changed_lists, great_network, least_sides, reach, side_capacity, sides, simple_paths, small_networks,
    steps_from, sublists,
)
from trunkweb.errors import BadVertex, SameVertex
from trunkweb.flows.flow import greatest_flow, near_side
from trunkweb.flows.packings import check_disjoint, check_packing, disjoint_paths, packing
from trunkweb.networks.network import Network

BOTH = (True, False)


def vertices_of(network, start, path, arcs):
    """The vertices through which a list of edges leads, or None if it is no path."""
    told = [start]
    for number in path:
        known = dict(steps_from(network, told[-1], arcs))
        if number not in known:
            return None
        told.append(known[number])
    return told


def is_packing(network, start, goal, rows, arcs):
    """Point 206, word by word."""
    for amount, path in rows:
        told = vertices_of(network, start, path, arcs)
        if amount < 1 or told is None or told[-1] != goal:
            return False
    loads = [sum(amount * path.count(k) for amount, path in rows) for k in range(len(network.edges()))]
    return all(load <= edge[2] for load, edge in zip(loads, network.edges()))


def ones(network):
    """The network if all capacities are 1."""
    return Network(network.size(), [(u, v, 1) for u, v, _ in network.edges()])


def are_apart(network, start, goal, paths, edges, arcs):
    """Point 207, word by word."""
    used = [number for path in paths for number in path]
    for path in paths:
        told = vertices_of(network, start, path, arcs)
        if told is None or told[-1] != goal:
            return False
    many = len(network.edges())
    if len(used) != len(set(used)) or len(edges) != len(paths):
        return False
    if sorted(set(edges)) != edges or not set(edges) <= set(range(many)):
        return False
    left = [number for number in range(many) if number not in edges]
    return goal not in reach(network, start, arcs, left)


class Packings(Case):
    def look_at(self, network, goal, arcs):
        value, _, side = greatest_flow(network, 0, goal, arcs)
        rows = packing(network, 0, goal, arcs)
        self.assertTrue(is_packing(network, 0, goal, rows, arcs))
        self.assertLessEqual(len(rows), len(network.edges()))
        self.assertEqual(sum(amount for amount, _ in rows), value)
        for row in rows:
            self.assertIs(type(row), tuple)
            told = vertices_of(network, 0, row[1], arcs)
            self.assertEqual(len(set(told)), len(told))
        self.assertIs(check_packing(network, 0, goal, rows, side, arcs), True)
        return rows, side

    def test_small_networks(self):
        for network in small_networks(51, 150, (2, 6), (0, 10)):
            for arcs in BOTH:
                rows, _ = self.look_at(network, network.size() - 1, arcs)
                self.assertEqual(self.steady(packing, network, 0, network.size() - 1, arcs), rows)
                least = least_sides(network, 0, network.size() - 1, arcs)[0]
                self.assertEqual(sum(amount for amount, _ in rows), least)

    def test_great_networks(self):
        for seed in range(4):
            network = great_network(52 + seed, most=(1, 7, MILLION, MILLION)[seed])
            for arcs in BOTH:
                rows, side = self.look_at(network, 39, arcs)
                if rows:
                    self.assertFalse(check_packing(network, 0, 39, rows[:-1], side, arcs))
                    more = rows[:-1] + [(rows[-1][0] + 1, rows[-1][1])]
                    self.assertFalse(check_packing(network, 0, 39, more, side, arcs))

    def test_no_way(self):
        network = Network(3, [(1, 0, 3), (0, 1, 0), (2, 1, 4)])
        self.assertEqual(packing(network, 0, 2, True), [])
        self.assertTrue(check_packing(network, 0, 2, [], [0], True))
        self.assertEqual(packing(network, 0, 2, False), [(3, [0, 2])])

    def test_changed_packings(self):
        for network in small_networks(56, 60, (2, 5), (1, 8), (1, 2, 4)):
            for arcs in BOTH:
                rows, near = self.look_at(network, 1, arcs)
                value = sum(amount for amount, _ in rows)
                changed = [rows, [], rows + rows, rows[1:], rows + [(1, [])], rows + [(0, [])], rows[::-1]]
                for path in simple_paths(network, 0, 1, arcs):
                    changed += [rows + [(1, path)], rows + [(0, path)], rows + [(-1, path)]]
                for k, (amount, path) in enumerate(rows):
                    for other in (amount - 1, amount + 1, 0, -amount):
                        changed.append(rows[:k] + [(other, path)] + rows[k + 1:])
                    for other in changed_lists(path, len(network.edges())):
                        changed.append(rows[:k] + [(amount, other)] + rows[k + 1:])
                    changed.append(rows[:k] + [(1, path)] * amount + rows[k + 1:])
                    changed.append(rows + [(-1, path), (1, path)])
                for other in changed:
                    good = is_packing(network, 0, 1, other, arcs) and sum(amount for amount, _ in other) == value
                    self.assertIs(self.steady(check_packing, network, 0, 1, other, near, arcs), good)
                least = [side for side in sides(network, 0, 1) if side_capacity(network, side, arcs) == value]
                for side in list(changed_lists(near, network.size())) + sides(network, 0, 1) + [[]]:
                    self.assertIs(check_packing(network, 0, 1, rows, side, arcs), side in least)

    def test_a_path_that_goes_through_an_edge_twice(self):
        network = Network(3, [(0, 1, 4), (1, 2, 3), (2, 1, 2)])
        self.assertFalse(check_packing(network, 0, 2, [(3, [0, 1, 1, 1]), (1, [0, 2])], [0], False))
        self.assertTrue(check_packing(network, 0, 2, [(1, [0, 1, 1, 1]), (2, [0, 2])], [0], False) is False)
        self.assertTrue(check_packing(network.with_price(0, 1), 0, 2, [(1, [0, 1, 1, 1])], [0], False))
        self.assertFalse(check_packing(network.with_price(0, 1), 0, 2, [(1, [0, 1, 1, 1])], [0], True))
        self.assertTrue(check_packing(network.with_price(0, 1), 0, 2, [(1, [0, 1, 2, 1])], [0], True))
        self.assertFalse(check_packing(Network(2, [(0, 1, 2)]), 0, 1, [(1, [0, 0, 0])], [0], False))
        self.assertFalse(check_packing(Network(2, [(0, 1, 1)]), 0, 1, [(1, [0, 0, 0])], [0], False))


class Disjoint(Case):
    def look_at(self, network, goal, arcs):
        paths, edges = self.steady(disjoint_paths, network, 0, goal, arcs)
        self.assertTrue(are_apart(network, 0, goal, paths, edges, arcs))
        self.assertIs(self.steady(check_disjoint, network, 0, goal, paths, edges, arcs), True)
        side = near_side(ones(network), 0, goal, arcs)
        self.assertEqual(edges, [k for k, (u, v, _) in enumerate(network.edges())
                                 if u in side and v not in side or not arcs and v in side and u not in side])
        return paths, edges

    def test_small_networks(self):
        for network in small_networks(57, 100, (2, 5), (0, 9)):
            for arcs in BOTH:
                paths, edges = self.look_at(network, 1, arcs)
                many = range(len(network.edges()))
                fewest = min(len(some) for some in sublists(many)
                             if 1 not in reach(network, 0, arcs, set(many) - set(some)))
                self.assertEqual(len(paths), fewest)

    def test_great_networks(self):
        for seed in range(4):
            for arcs in BOTH:
                self.look_at(great_network(58 + seed), 39, arcs)

    def test_a_path_that_must_give_way(self):
        # The shortest path from 0 to 5 takes an edge that no two paths can go without.
        network = Network(8, [(0, 1, 1), (1, 4, 1), (4, 5, 1), (0, 2, 1), (2, 3, 1), (3, 4, 1), (1, 6, 1), (6, 7, 1),
                              (7, 5, 1)])
        for arcs in BOTH:
            paths, edges = self.look_at(network, 5, arcs)
            self.assertEqual((sorted(paths), edges), ([[0, 6, 7, 8], [3, 4, 5, 2]], [0, 3]))
            self.assertEqual(sorted(packing(network, 0, 5, arcs)), [(1, [0, 6, 7, 8]), (1, [3, 4, 5, 2])])

    def test_prices_play_no_part(self):
        network = Network(2, [(0, 1, 0), (1, 0, 9), (0, 1, 5)])
        self.assertEqual(self.look_at(network, 1, True), ([[0], [2]], [0, 2]))
        paths, edges = self.look_at(network, 1, False)
        self.assertEqual((sorted(paths), edges), ([[0], [1], [2]], [0, 1, 2]))

    def test_changed_ones(self):
        for network in small_networks(62, 50, (2, 5), (1, 8)):
            for arcs in BOTH:
                paths, edges = self.look_at(network, 1, arcs)
                many = len(network.edges())
                for other in list(changed_lists(edges, many)) + list(sublists(range(many))) + [[], edges[::-1]]:
                    self.assertIs(check_disjoint(network, 0, 1, paths, other, arcs),
                                  are_apart(network, 0, 1, paths, other, arcs))
                changed = [paths + paths, paths[1:], paths + [[]], paths[::-1], [[]], []]
                for k, path in enumerate(paths):
                    changed += [paths[:k] + [other] + paths[k + 1:] for other in changed_lists(path, many)]
                for path in simple_paths(network, 0, 1, arcs):
                    changed += [paths[1:] + [path], [path], [path] * len(paths)]
                for other in changed:
                    self.assertIs(self.steady(check_disjoint, network, 0, 1, other, edges, arcs),
                                  are_apart(network, 0, 1, other, edges, arcs))

    def test_a_path_that_has_an_edge_twice(self):
        network = Network(3, [(0, 2, 1), (0, 1, 1)])
        self.assertTrue(check_disjoint(network, 0, 1, [[1]], [1], False))
        self.assertFalse(check_disjoint(network, 0, 1, [[0, 0, 1]], [1], False))


class Errors(Case):
    def test_ends(self):
        network = Network(3, [(0, 1, 4), (1, 2, 3)])
        for arcs in BOTH:
            for call, given in ((packing, ()), (disjoint_paths, ()), (check_packing, ([(0, [7])], [9])),
                                (check_disjoint, ([[7]], [9, 9]))):
                for bad in (3, -1, 41):
                    self.fails(BadVertex, bad, call, network, bad, 9, *given, arcs)
                    self.fails(BadVertex, bad, call, network, bad, bad, *given, arcs)
                    self.fails(BadVertex, bad, call, network, 2, bad, *given, arcs)
                self.fails(SameVertex, 1, call, network, 1, 1, *given, arcs)
