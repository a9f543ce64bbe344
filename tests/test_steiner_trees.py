"""Steiner trees and Steiner arborescences (points 401 to 405)."""

import random
from itertools import permutations

from tests.cases import Case
from tests.samples import MILLION, changed_lists, first_of, great_network, price_of, reach, small_networks, sublists
from trunkweb.errors import BadTerminal, BadVertex, OutOfRange
from trunkweb.networks.network import Network
from trunkweb.steiner import arborescences, trees
from trunkweb.trees.spanning import told_forest


def joins(network, terminals, numbers):
    """Whether any two terminals have a path of the edges."""
    return set(terminals) <= reach(network, terminals[0], False, numbers)


def arrives(network, root, terminals, numbers):
    """Whether the root has a path of the arcs to each terminal."""
    return set(terminals) <= reach(network, root, True, numbers)


def lists_of(network):
    """All ascending lists of edges."""
    return list(sublists(range(len(network.edges()))))


def is_bound(network, terminals, table, arcs):
    """Point 403 (405 with arcs), word by word."""
    size = network.size()
    if len(table) != 2 ** len(terminals) or table[0] != [] or any(len(row) != size for row in table[1:]):
        return False
    for i, terminal in enumerate(terminals):
        if table[2 ** i][terminal] is None or table[2 ** i][terminal] > 0:
            return False
    for row in table[1:]:
        for u, v, price in network.edges():
            for x, y in [(v, u)] if arcs else [(u, v), (v, u)]:
                if row[x] is not None and (row[y] is None or row[y] > row[x] + price):
                    return False
    for one in range(1, len(table)):
        for two in range(1, len(table)):
            if one & two == 0:
                for a, b, c in zip(table[one], table[two], table[one | two]):
                    if a is not None and b is not None and (c is None or c > a + b):
                        return False
    return True


def shows_tree(network, terminals, tree, table):
    """What the check of a tree must tell."""
    if sorted(set(tree)) != tree or not set(tree) <= set(range(len(network.edges()))):
        return False
    if not is_bound(network, terminals[:-1], table, False) or not joins(network, terminals, tree):
        return False
    return price_of(network, tree) == (table[-1][terminals[-1]] if len(terminals) > 1 else 0)


def shows_no_tree(network, terminals, table):
    """What the check of no tree must tell."""
    if not is_bound(network, terminals[:-1], table, False):
        return False
    return len(terminals) > 1 and table[-1][terminals[-1]] is None


def shows_arborescence(network, root, terminals, arcs, table):
    """What the check of an arborescence must tell."""
    if sorted(set(arcs)) != arcs or not set(arcs) <= set(range(len(network.edges()))):
        return False
    if not is_bound(network, terminals, table, True) or not arrives(network, root, terminals, arcs):
        return False
    return price_of(network, arcs) == table[-1][root]


def changed_tables(table):
    """Tables that differ from the given one, and lists of another form."""
    yield from (table[:-1], table + table[-1:], [], [[]], table[1:], [[0]] + table[1:], [[None]] + table[1:])
    for s in range(1, len(table)):
        row = table[s]
        others = [[], row[:-1], row + [0], row + [None], [None] * len(row), [0] * len(row), [-1] * len(row)]
        for v, number in enumerate(row):
            for other in (None, 0, -1, 5, 10 ** 9) + ((number - 1, number + 1) if number is not None else ()):
                others.append(row[:v] + [other] + row[v + 1:])
        for other in others:
            yield table[:s] + [other] + table[s + 1:]
    yield [[None if x is None else x - 1 for x in row] for row in table]
    yield [[None if x is None else x - 1 for x in row] if s in (1, 3) else row for s, row in enumerate(table)]


def terminal_lists(dice, network, most, count):
    """Some lists of terminals in any order."""
    for _ in range(count):
        yield dice.sample(range(network.size()), dice.randint(1, min(most, network.size())))


class Trees(Case):
    def test_against_all_lists(self):
        dice = random.Random(121)
        none = 0
        for network in small_networks(121, 110, (1, 6), (0, 9)):
            lists = lists_of(network)
            for terminals in terminal_lists(dice, network, 5, 3):
                best = first_of(network, [n for n in lists if joins(network, terminals, n)])
                self.assertEqual(self.steady(trees.told_tree, network, terminals), best)
                table = self.steady(trees.tree_table, network, terminals)
                self.assertTrue(is_bound(network, terminals[:-1], table, False))
                if best is None:
                    none += 1
                    self.assertIs(self.steady(trees.check_no_tree, network, terminals, table), True)
                    self.assertIs(trees.check_tree(network, terminals, [], table), False)
                else:
                    self.assertIs(self.steady(trees.check_tree, network, terminals, best, table), True)
                    self.assertIs(trees.check_no_tree(network, terminals, table), False)
        self.assertGreater(none, 20)

    def test_the_order_of_the_terminals_plays_no_part(self):
        for network in small_networks(122, 15, (4, 6), (6, 10), (0, 1, 3)):
            told = [trees.told_tree(network, list(some)) for some in permutations(range(4))]
            self.assertEqual([tree for tree in told if tree != told[0]], [])

    def test_tables_are_bounds(self):
        dice = random.Random(123)
        for network in small_networks(123, 25, (2, 5), (1, 7)):
            lists = lists_of(network)
            for terminals in terminal_lists(dice, network, 4, 2):
                table = trees.tree_table(network, terminals)
                for group in range(1, len(table)):
                    some = [t for i, t in enumerate(terminals[:-1]) if group >> i & 1]
                    for v in range(network.size()):
                        best = first_of(network, [n for n in lists if joins(network, some + [v], n)])
                        self.assertEqual(table[group][v], None if best is None else price_of(network, best))

    def test_changed_tables(self):
        dice = random.Random(124)
        for network in small_networks(124, 40, (1, 5), (0, 8)):
            for terminals in terminal_lists(dice, network, 4, 1):
                table = trees.tree_table(network, terminals)
                tree = trees.told_tree(network, terminals) or []
                for other in list(changed_tables(table)) + [table]:
                    passed = self.steady(trees.check_tree, network, terminals, tree, other)
                    missed = self.steady(trees.check_no_tree, network, terminals, other)
                    self.assertIs(passed, shows_tree(network, terminals, tree, other))
                    self.assertIs(missed, shows_no_tree(network, terminals, other))
                    self.assertFalse(passed and missed)

    def test_changed_trees(self):
        dice = random.Random(125)
        for network in small_networks(125, 50, (1, 5), (0, 8)):
            for terminals in terminal_lists(dice, network, 4, 1):
                table = trees.tree_table(network, terminals)
                tree = trees.told_tree(network, terminals) or []
                lists = list(changed_lists(tree, len(network.edges()))) + lists_of(network) + [tree[::-1], tree + tree]
                for other in lists:
                    self.assertIs(trees.check_tree(network, terminals, other, table),
                                  shows_tree(network, terminals, other, table))

    def test_one_terminal(self):
        network = Network(3, [(0, 1, 0), (1, 2, 4)])
        self.assertEqual(trees.told_tree(network, [1]), [])
        self.assertEqual(trees.tree_table(network, [1]), [[]])
        self.assertTrue(trees.check_tree(network, [2], [], [[]]))
        self.assertTrue(trees.check_tree(network, [2], [0], [[]]))
        self.assertFalse(trees.check_tree(network, [2], [1], [[]]))
        self.assertFalse(trees.check_tree(network, [2], [], []))
        self.assertFalse(trees.check_tree(network, [2], [], [[0]]))
        self.assertFalse(trees.check_no_tree(network, [2], [[]]))

    def test_fewest_edges_and_first_list(self):
        network = Network(4, [(0, 1, 0), (1, 2, 0), (0, 2, 0), (2, 3, 1), (3, 0, 1), (0, 2, 0)])
        self.assertEqual(trees.told_tree(network, [2, 0]), [2])
        self.assertEqual(trees.told_tree(network, [3, 2]), [3])
        self.assertEqual(trees.told_tree(network, [3, 2, 0]), [2, 3])
        self.assertEqual(trees.told_tree(network, [3, 1]), [0, 4])

    def test_price_of(self):
        network = Network(3, [(0, 1, 3), (1, 2, 4)])
        self.assertEqual(self.steady(trees.price_of, network, [1, 0, 1, 1]), 15)
        self.assertEqual(trees.price_of(network, []), 0)


class TreesAtTheEdges(Case):
    def test_errors(self):
        network = Network(10, [(0, 1, 3), (1, 2, 4)])
        calls = ((trees.told_tree, ()), (trees.tree_table, ()), (trees.check_tree, ([-1], [])),
                 (trees.check_no_tree, ([],)))
        for call, given in calls:
            for many in (0, 9, 10):
                self.fails(OutOfRange, many, call, network, [77] * many, *given)
            for terminals, at in (([10], 0), ([-1], 0), ([0, 1, 0], 2), ([0, 0, 99], 1), ([3, 4, 99, 3], 2),
                                  ([2 ** 40], 0), ([5, -10], 1), (list(range(7)) + [6], 7)):
                self.fails(BadTerminal, at, call, network, terminals, *given)

    def test_eight_terminals_in_a_great_network(self):
        for seed in range(3):
            network = great_network(126 + seed, most=(1, 40, MILLION)[seed])
            terminals = random.Random(seed).sample(range(40), 8)
            tree = trees.told_tree(network, terminals)
            table = trees.tree_table(network, terminals)
            self.assertTrue(trees.check_tree(network, terminals, tree, table))
            self.assertFalse(trees.check_tree(network, terminals, tree[1:], table))
            self.assertFalse(trees.check_no_tree(network, terminals, table))
            self.assertEqual(trees.told_tree(network, terminals[::-1]), tree)

    def test_all_vertices_are_terminals(self):
        for network in small_networks(129, 40, (2, 8), (4, 20), (1, 5, 100)):
            terminals = list(range(network.size()))
            if len(reach(network, 0, False)) == network.size():
                self.assertEqual(trees.told_tree(network, terminals), told_forest(network))
            else:
                self.assertIsNone(trees.told_tree(network, terminals))


class Arborescences(Case):
    def test_against_all_lists(self):
        dice = random.Random(131)
        none = 0
        for network in small_networks(131, 140, (1, 6), (0, 9)):
            lists = lists_of(network)
            for terminals in terminal_lists(dice, network, 4, 2):
                root = dice.randrange(network.size())
                best = first_of(network, [n for n in lists if arrives(network, root, terminals, n)])
                self.assertEqual(self.steady(arborescences.told_arborescence, network, root, terminals), best)
                table = self.steady(arborescences.arborescence_table, network, root, terminals)
                self.assertTrue(is_bound(network, terminals, table, True))
                missed = arborescences.check_no_arborescence(network, root, terminals, table)
                self.assertIs(missed, best is None)
                none += best is None
                passed = self.steady(arborescences.check_arborescence, network, root, terminals, best or [], table)
                self.assertIs(passed, best is not None)
        self.assertGreater(none, 50)

    def test_denser_networks(self):
        dice = random.Random(132)
        for network in small_networks(132, 25, (4, 5), (10, 11), (0, 1, 2)):
            lists = lists_of(network)
            for terminals in terminal_lists(dice, network, 4, 1):
                best = first_of(network, [n for n in lists if arrives(network, 0, terminals, n)])
                self.assertEqual(arborescences.told_arborescence(network, 0, terminals), best)

    def test_changed_tables_and_lists(self):
        dice = random.Random(133)
        for network in small_networks(133, 40, (1, 5), (0, 8)):
            for terminals in terminal_lists(dice, network, 3, 1):
                root = dice.randrange(network.size())
                table = arborescences.arborescence_table(network, root, terminals)
                told = arborescences.told_arborescence(network, root, terminals) or []
                for other in list(changed_tables(table)) + [table]:
                    passed = self.steady(arborescences.check_arborescence, network, root, terminals, told, other)
                    missed = self.steady(arborescences.check_no_arborescence, network, root, terminals, other)
                    self.assertIs(passed, shows_arborescence(network, root, terminals, told, other))
                    self.assertIs(missed, is_bound(network, terminals, other, True) and other[-1][root] is None)
                    self.assertFalse(passed and missed)
                for other in list(changed_lists(told, len(network.edges()))) + lists_of(network):
                    self.assertIs(arborescences.check_arborescence(network, root, terminals, other, table),
                                  shows_arborescence(network, root, terminals, other, table))

    def test_the_root_among_the_terminals(self):
        network = Network(3, [(0, 1, 5), (1, 2, 6), (2, 0, 7)])
        self.assertEqual(arborescences.told_arborescence(network, 0, [0]), [])
        self.assertEqual(arborescences.told_arborescence(network, 0, [2, 0]), [0, 1])
        self.assertEqual(arborescences.arborescence_table(network, 1, [0]), [[], [0, 13, 7]])
        table = arborescences.arborescence_table(network, 0, [0])
        self.assertTrue(arborescences.check_arborescence(network, 0, [0], [], table))
        self.assertFalse(arborescences.check_no_arborescence(network, 0, [0], table))

    def test_none_for_one_terminal(self):
        network = Network(2, [(0, 1, 5)])
        self.assertIsNone(arborescences.told_arborescence(network, 1, [0]))
        self.assertTrue(arborescences.check_no_arborescence(network, 1, [0], [[], [0, None]]))
        self.assertFalse(arborescences.check_no_arborescence(network, 0, [1], [[], [5, 0]]))
        self.assertFalse(arborescences.check_no_arborescence(network, 0, [1], [[], [None, 0]]))

    def test_errors(self):
        network = Network(10, [(0, 1, 3), (1, 2, 4)])
        calls = ((arborescences.told_arborescence, ()), (arborescences.arborescence_table, ()),
                 (arborescences.check_arborescence, ([-1], [])), (arborescences.check_no_arborescence, ([],)))
        for call, given in calls:
            for many in (0, 8, 9):
                self.fails(OutOfRange, many, call, network, 99, [77] * many, *given)
            for terminals, at in (([10], 0), ([-1], 0), ([0, 1, 0], 2), ([0, 0, 99], 1), ([5, -10], 1)):
                self.fails(BadTerminal, at, call, network, 99, terminals, *given)
            for bad in (10, -1, 2 ** 40):
                self.fails(BadVertex, bad, call, network, bad, [0, 1], *given)

    def test_seven_terminals_in_a_great_network(self):
        for seed in range(3):
            network = great_network(134 + seed, most=(1, 40, MILLION)[seed])
            ring = [(v, (v + 1) % 40, 50) for v in range(40)]
            network = Network(40, network.edges()[:160] + ring)
            root, *terminals = random.Random(seed).sample(range(40), 8)
            told = arborescences.told_arborescence(network, root, terminals)
            table = arborescences.arborescence_table(network, root, terminals)
            self.assertTrue(arborescences.check_arborescence(network, root, terminals, told, table))
            self.assertFalse(arborescences.check_arborescence(network, root, terminals, told[1:], table))
