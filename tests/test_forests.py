"""Steiner forests and their checks (points 501 to 503)."""

import random

from tests.cases import Case
from tests.samples import MILLION, changed_lists, first_of, great_network, price_of, reach, small_networks
from tests.test_steiner_trees import changed_tables, is_bound, lists_of
from trunkweb.errors import BadPair, OutOfRange
from trunkweb.forests import forests
from trunkweb.networks.network import Network
from trunkweb.steiner.trees import told_tree


def joins(network, pairs, numbers):
    """Whether the two vertices of each pair have a path of the edges."""
    return all(v in reach(network, u, False, numbers) for u, v in pairs)


def all_divisions(items):
    """All divisions of a list into groups."""
    if not items:
        return [[]]
    found = []
    for rest in all_divisions(items[1:]):
        found.append([[items[0]]] + rest)
        found += [rest[:k] + [[items[0]] + rest[k]] + rest[k + 1:] for k in range(len(rest))]
    return found


def terminals_of(pairs):
    """The terminals of pairs, ascending."""
    return sorted({vertex for pair in pairs for vertex in pair})


def number_of(pairs, group, table):
    """Point 503: the number of a group."""
    terminals = terminals_of(pairs)
    *others, last = terminals_of(group)
    return table[sum(2 ** terminals.index(vertex) for vertex in others)][last]


def shows_forest(network, pairs, forest, table):
    """Point 503: what the check of a forest must tell."""
    if not is_bound(network, terminals_of(pairs), table, False):
        return False
    if sorted(set(forest)) != forest or not set(forest) <= set(range(len(network.edges()))):
        return False
    if not joins(network, pairs, forest):
        return False
    for division in all_divisions(pairs):
        numbers = [number_of(pairs, group, table) for group in division]
        if None not in numbers and sum(numbers) < price_of(network, forest):
            return False
    return True


def shows_no_forest(network, pairs, table):
    """Point 503: what the check of no forest must tell."""
    if not is_bound(network, terminals_of(pairs), table, False):
        return False
    return any(number_of(pairs, [pair], table) is None for pair in pairs)


def some_pairs(dice, network, most):
    """A list of 1 to `most` pairs, often with common vertices or twice."""
    pairs = [tuple(dice.sample(range(network.size()), 2)) for _ in range(dice.randint(1, most))]
    if len(pairs) > 1 and dice.random() < 0.2:
        pairs[-1] = dice.choice((pairs[0], pairs[0][::-1]))
    return pairs


def ringed(seed, most=MILLION):
    """A network of the greatest size in which all vertices have paths."""
    network = great_network(seed, most=most)
    return Network(40, network.edges()[:160] + [(v, (v + 1) % 40, min(most, 50)) for v in range(40)])


class Small(Case):
    def test_against_all_lists(self):
        dice = random.Random(261)
        none = 0
        for network in small_networks(261, 150, (2, 7), (0, 9)):
            lists = lists_of(network)
            for _ in range(3):
                pairs = some_pairs(dice, network, 4)
                best = first_of(network, [numbers for numbers in lists if joins(network, pairs, numbers)])
                self.assertEqual(self.steady(forests.told_forest, network, pairs), best)
                table = self.steady(forests.forest_table, network, pairs)
                self.assertTrue(is_bound(network, terminals_of(pairs), table, False))
                missed = self.steady(forests.check_no_forest, network, pairs, table)
                self.assertIs(missed, best is None)
                passed = self.steady(forests.check_forest, network, pairs, best or [], table)
                self.assertIs(passed, best is not None)
                none += best is None
        self.assertGreater(none, 50)

    def test_pairs_that_are_apart(self):
        dice = random.Random(262)
        parts = 0
        for network in small_networks(262, 50, (8, 8), (9, 11), (0, 2, 5)):
            vertices = dice.sample(range(8), 8)
            pairs = [(vertices[2 * k], vertices[2 * k + 1]) for k in range(4)]
            best = first_of(network, [numbers for numbers in lists_of(network) if joins(network, pairs, numbers)])
            self.assertEqual(forests.told_forest(network, pairs), best)
            table = forests.forest_table(network, pairs)
            self.assertIs(forests.check_forest(network, pairs, best or [], table), best is not None)
            self.assertIs(forests.check_no_forest(network, pairs, table), best is None)
            parts += best is not None and best != told_tree(network, vertices)
        self.assertGreater(parts, 5)

    def test_the_order_of_the_pairs_plays_no_part(self):
        dice = random.Random(263)
        for network in small_networks(263, 60, (4, 7), (5, 12), (0, 1, 3)):
            pairs = some_pairs(dice, network, 4)
            told = forests.told_forest(network, pairs)
            for _ in range(3):
                other = [pair[::dice.choice((1, -1))] for pair in dice.sample(pairs, len(pairs))]
                self.assertEqual(forests.told_forest(network, other), told)

    def test_fewest_edges_and_first_list(self):
        network = Network(4, [(0, 1, 0), (1, 2, 0), (0, 2, 0), (2, 3, 1), (3, 0, 1), (0, 2, 0)])
        self.assertEqual(forests.told_forest(network, [(2, 0)]), [2])
        self.assertEqual(forests.told_forest(network, [(2, 3), (0, 2)]), [2, 3])
        self.assertEqual(forests.told_forest(network, [(2, 3), (0, 1)]), [0, 3])
        self.assertEqual(forests.told_forest(network, [(0, 1), (1, 2)]), [0, 1])
        self.assertEqual(forests.told_forest(network, [(0, 1), (0, 1), (1, 0)]), [0])

    def test_trees_that_have_parts_in_common(self):
        # Each pair alone would have its own edge; together one way in the middle serves all.
        edges = [(0, 4, 2), (1, 5, 2), (2, 4, 2), (3, 5, 2), (4, 5, 1), (0, 1, 5), (2, 3, 5)]
        network = Network(6, edges)
        self.assertEqual(forests.told_forest(network, [(0, 1)]), [5])
        self.assertEqual(forests.told_forest(network, [(0, 1), (2, 3)]), [0, 1, 2, 3, 4])


class Checks(Case):
    def test_changed_tables(self):
        dice = random.Random(264)
        counts = [0, 0, 0]
        for network in small_networks(264, 50, (2, 5), (0, 8)):
            pairs = some_pairs(dice, network, 3)
            table = forests.forest_table(network, pairs)
            forest = forests.told_forest(network, pairs) or []
            for other in list(changed_tables(table)) + [table]:
                passed = self.steady(forests.check_forest, network, pairs, forest, other)
                missed = self.steady(forests.check_no_forest, network, pairs, other)
                self.assertIs(passed, shows_forest(network, pairs, forest, other))
                self.assertIs(missed, shows_no_forest(network, pairs, other))
                self.assertFalse(passed and missed)
                counts[0 if passed else 1 if missed else 2] += 1
        self.assertGreater(min(counts), 30)

    def test_changed_lists(self):
        dice = random.Random(265)
        for network in small_networks(265, 60, (2, 5), (0, 8)):
            pairs = some_pairs(dice, network, 4)
            table = forests.forest_table(network, pairs)
            forest = forests.told_forest(network, pairs) or []
            many = len(network.edges())
            for other in list(changed_lists(forest, many)) + lists_of(network) + [forest[::-1], forest + forest]:
                told = forests.check_forest(network, pairs, other, table)
                self.assertIs(told, shows_forest(network, pairs, other, table))

    def test_one_division_that_is_too_cheap(self):
        # The table of a cheaper network is a bound from below, too.
        network = Network(4, [(0, 1, 5), (2, 3, 5), (1, 2, 1)])
        pairs = [(0, 1), (2, 3)]
        self.assertEqual(forests.told_forest(network, pairs), [0, 1])
        for number in range(2):
            table = forests.forest_table(network.with_price(number, 4), pairs)
            self.assertIs(forests.check_forest(network, pairs, [0, 1], table), False)
        network = Network(4, [(0, 1, 5), (2, 3, 5), (0, 2, 1), (1, 3, 1)])
        self.assertEqual(forests.told_forest(network, pairs), [0, 2, 3])
        table = forests.forest_table(network, pairs)
        self.assertIs(forests.check_forest(network, pairs, [0, 2, 3], table), True)
        self.assertIs(forests.check_forest(network, pairs, [0, 1], table), False)


class AtTheEdges(Case):
    def test_errors(self):
        network = Network(10, [(0, 1, 3), (1, 2, 4)])
        calls = ((forests.told_forest, ()), (forests.forest_table, ()), (forests.check_forest, ([-1], [])),
                 (forests.check_no_forest, ([],)))
        for call, given in calls:
            for many in (0, 5, 6, 20):
                self.fails(OutOfRange, many, call, network, [(77, 77)] * many, *given)
            for pairs, at in (([(3, 3)], 0), ([(0, 10)], 0), ([(-1, 0)], 0), ([(0, 1), (1, 0), (2, 2), (0, 99)], 2),
                              ([(0, 1), (5, -10)], 1), ([(0, 1), (1, 2), (0, 1), (10, 9)], 3), ([(2 ** 40, 0)], 0)):
                self.fails(BadPair, at, call, network, pairs, *given)

    def test_one_vertex_has_no_pairs(self):
        self.fails(BadPair, 0, forests.told_forest, Network(1, []), [(0, 0)])
        self.fails(BadPair, 0, forests.told_forest, Network(1, []), [(0, 1)])

    def test_great(self):
        for seed, most in enumerate((0, 1, 40, MILLION)):
            network = ringed(266 + seed, most)
            vertices = random.Random(seed).sample(range(40), 8)
            pairs = [(vertices[2 * k], vertices[2 * k + 1]) for k in range(4)]
            forest = forests.told_forest(network, pairs)
            table = forests.forest_table(network, pairs)
            self.assertIs(forests.check_forest(network, pairs, forest, table), True)
            self.assertIs(forests.check_forest(network, pairs, forest[1:], table), False)
            self.assertIs(forests.check_no_forest(network, pairs, table), False)

    def test_great_without_a_forest(self):
        network = Network(40, [edge for edge in ringed(270).edges() if 7 not in edge[:2]])
        pairs = [(0, 1), (2, 3), (4, 5), (7, 6)]
        self.assertIsNone(forests.told_forest(network, pairs))
        table = forests.forest_table(network, pairs)
        self.assertIs(forests.check_no_forest(network, pairs, table), True)
        self.assertIs(forests.check_forest(network, pairs, list(range(len(network.edges()))), table), False)
