"""Reductions of networks with terminals (points 406 to 408)."""

import random

from tests.cases import Case
from tests.samples import MILLION, great_network, random_network, small_networks
from trunkweb.errors import BadRow, BadTerminal, OutOfRange
from trunkweb.networks.network import Network
from trunkweb.steiner.reductions import check_reduction, lead_back, reduction, rest_of
from trunkweb.steiner.trees import check_tree, price_of, told_tree, tree_table


class Left:
    """Point 406, word by word: the edges that are left, by their numbers."""

    def __init__(self, network, terminals):
        self.size = network.size()
        self.terminals = terminals
        self.edges = dict(enumerate(network.edges()))
        self.origins = {number: {number} for number in self.edges}
        self.next = len(self.edges)

    def around(self, vertex):
        return [number for number, edge in sorted(self.edges.items()) if vertex in edge[:2]]

    def other(self, number, vertex):
        u, v, _ = self.edges[number]
        return v if u == vertex else u

    def inner(self, vertex):
        return 0 <= vertex < self.size and vertex not in self.terminals

    def leaf(self, vertex):
        return self.inner(vertex) and len({self.other(number, vertex) for number in self.around(vertex)}) == 1

    def series(self, vertex):
        around = self.around(vertex)
        if not self.inner(vertex) or len(around) != 2:
            return False
        x, y = (self.other(number, vertex) for number in around)
        return x != y and sum(self.edges[number][2] for number in around) <= MILLION

    def longer(self, number, walk):
        if number not in self.edges or number in walk or any(step not in self.edges for step in walk):
            return False
        vertex, goal, price = self.edges[number]
        pieces = [0]
        for step in walk:
            if vertex not in self.edges[step][:2]:
                return False
            vertex = self.other(step, vertex)
            pieces[-1] += self.edges[step][2]
            if vertex in self.terminals:
                pieces.append(0)
        return vertex == goal and max(pieces) <= price

    def some_longer(self, number):
        """Whether any walk at all shows that an edge may be taken out."""
        start, goal, price = self.edges[number]
        seen = {(start, 0)}
        waiting = [(start, 0)]
        while waiting:
            vertex, piece = waiting.pop()
            for step in self.around(vertex):
                longer = piece + self.edges[step][2]
                other = self.other(step, vertex)
                after = (other, 0 if other in self.terminals else longer)
                if step != number and longer <= price and after not in seen:
                    seen.add(after)
                    waiting.append(after)
        return goal in [vertex for vertex, _ in seen]

    def apply(self, row):
        kind, first, *rest = row
        if not getattr(self, kind)(first, *rest):
            return False
        if kind == "longer":
            del self.edges[first]
            return True
        around = self.around(first)
        ends = [self.other(number, first) for number in around]
        gone = [self.edges.pop(number) for number in around]
        if kind == "series":
            self.edges[self.next] = (*ends, gone[0][2] + gone[1][2])
            self.origins[self.next] = self.origins[around[0]] | self.origins[around[1]]
            self.next += 1
        return True

    def rest(self):
        numbers = sorted(self.edges)
        return [self.edges[number] for number in numbers], [sorted(self.origins[number]) for number in numbers]


def behind(network, terminals, rows):
    """What is left behind rows, and the index of the first one without a reason, or None."""
    left = Left(network, terminals)
    for k, row in enumerate(rows):
        if not left.apply(row):
            return left, k
    return left, None


def samples(seed, count, sizes=(2, 6), many=(0, 10), prices=(0, 1, 3, 9), most=4):
    """Pairs of a small network and terminals."""
    dice = random.Random(seed)
    for network in small_networks(seed, count, sizes, many, prices):
        yield network, dice.sample(range(network.size()), dice.randint(1, min(most, network.size())))


def random_rows(dice, network, terminals, many):
    """Rows that mostly have a reason, and are in no good order."""
    left = Left(network, terminals)
    rows = []
    for _ in range(many):
        if dice.random() < 0.7 or not left.edges:
            row = (dice.choice(("leaf", "series")), dice.randrange(-1, network.size() + 1))
        else:
            number = dice.choice(sorted(left.edges))
            start, goal, _ = left.edges[number]
            walk, vertex = [], start
            while vertex != goal and len(walk) < 8 and left.around(vertex):
                walk.append(dice.choice(left.around(vertex)))
                vertex = left.other(walk[-1], vertex)
            row = ("longer", number, walk)
        before = dict(left.edges)
        if left.apply(row) or dice.random() < 0.1:
            rows.append(row)
            if left.edges == before:
                break
    return rows


class Full(Case):
    def full(self, network, terminals):
        """Test all that is promised of a full reduction; return its rows."""
        rows = self.steady(reduction, network, terminals)
        self.assertIs(self.steady(check_reduction, network, terminals, rows), True)
        left, bad = behind(network, terminals, rows)
        self.assertIsNone(bad)
        rest, origins = self.steady(rest_of, network, terminals, rows)
        self.assertEqual((rest.size(), (rest.edges(), origins)), (network.size(), left.rest()))
        for vertex in range(network.size()):
            self.assertFalse(left.leaf(vertex) or left.series(vertex))
        for number in left.edges:
            self.assertFalse(left.some_longer(number))
        return rows

    def test_small(self):
        longer = series = leaf = 0
        for network, terminals in samples(251, 500):
            kinds = [row[0] for row in self.full(network, terminals)]
            longer += kinds.count("longer")
            series += kinds.count("series")
            leaf += kinds.count("leaf")
        self.assertGreater(min(longer, series, leaf), 100)

    def test_denser(self):
        for network, terminals in samples(252, 60, (5, 9), (12, 30), (1, 4, 40), 6):
            self.full(network, terminals)

    def test_prices_that_are_too_great(self):
        for network, terminals in samples(253, 200, (3, 6), (2, 8), (MILLION,), 3):
            self.full(network, terminals)

    def test_the_least_price_stays(self):
        for network, terminals in samples(254, 300, (2, 7), (1, 12)):
            rest, origins = rest_of(network, terminals, reduction(network, terminals))
            tree = told_tree(rest, terminals)
            before = told_tree(network, terminals)
            if before is None:
                self.assertIsNone(tree)
            else:
                back = lead_back(origins, tree)
                self.assertEqual(price_of(rest, tree), price_of(network, before))
                self.assertEqual(price_of(network, back), price_of(network, before))
                self.assertTrue(check_tree(network, terminals, back, tree_table(network, terminals)))

    def test_great(self):
        for seed in range(6):
            network = great_network(255 + seed, most=(0, 1, 9, 100, 5000, MILLION)[seed])
            terminals = random.Random(seed).sample(range(40), (1, 2, 4, 8, 8, 8)[seed])
            rows = self.full(network, terminals)
            rest, origins = rest_of(network, terminals, rows)
            self.assertLess(len(rest.edges()), 120)
            tree = told_tree(rest, terminals)
            back = lead_back(origins, tree)
            self.assertEqual(price_of(network, back), price_of(network, told_tree(network, terminals)))

    def test_great_and_sparse(self):
        # Long ways of edges one behind the other: many rows "series" and "leaf".
        for seed in range(4):
            dice = random.Random(seed)
            edges = [(dice.randrange(max(0, v - 3), v), v, dice.randint(0, 99)) for v in range(1, 40)]
            network = Network(40, edges + random_network(dice, 40, 8, 99).edges())
            self.full(network, dice.sample(range(40), 3))

    def test_nothing_to_do(self):
        self.assertEqual(reduction(Network(1, []), [0]), [])
        self.assertEqual(reduction(Network(3, []), [2, 0]), [])
        self.assertEqual(reduction(Network(2, [(0, 1, 5)]), [1, 0]), [])


class Reasons(Case):
    def told(self, network, terminals, row, before=()):
        """Whether a row has a reason behind other ones."""
        rows = [*before, row]
        told = self.steady(check_reduction, network, terminals, rows)
        self.assertIs(told, behind(network, terminals, rows)[1] is None)
        return told

    def test_leaf(self):
        network = Network(5, [(0, 1, 3), (1, 0, 4), (1, 2, 5), (0, 3, 1), (3, 0, 2)])
        self.assertIs(self.told(network, [2], ("leaf", 3)), True)
        self.assertIs(self.told(network, [3], ("leaf", 3)), False)
        self.assertIs(self.told(network, [2], ("leaf", 1)), False)
        self.assertIs(self.told(network, [2], ("leaf", 4)), False)
        self.assertIs(self.told(network, [0], ("leaf", 2)), True)
        self.assertIs(self.told(network, [0], ("leaf", 1), [("leaf", 2)]), True)
        self.assertIs(self.told(network, [0], ("leaf", 2), [("leaf", 2)]), False)
        self.assertIs(self.told(network, [0], ("leaf", 2), [("leaf", 2), ("leaf", 1)]), False)
        for vertex in (-1, -2, 5, 10 ** 20):
            self.assertIs(self.told(network, [0], ("leaf", vertex)), False)

    def test_all_edges_of_a_leaf_go(self):
        network = Network(4, [(0, 1, 3), (1, 2, 5), (2, 1, 0), (1, 2, 7), (0, 3, 1)])
        rest, origins = rest_of(network, [0, 3], [("leaf", 2)])
        self.assertEqual((rest.size(), rest.edges(), origins), (4, [(0, 1, 3), (0, 3, 1)], [[0], [4]]))

    def test_series(self):
        network = Network(5, [(0, 1, 3), (2, 1, 4), (2, 3, 5), (3, 2, 6), (3, 4, 0)])
        self.assertIs(self.told(network, [0], ("series", 1)), True)
        self.assertIs(self.told(network, [1], ("series", 1)), False)
        self.assertIs(self.told(network, [0], ("series", 2)), False)
        self.assertIs(self.told(network, [0], ("series", 4)), False)
        self.assertIs(self.told(network, [0], ("series", 3)), False)
        self.assertIs(self.told(network, [0], ("series", 3), [("leaf", 4)]), False)
        self.assertIs(self.told(network, [0], ("leaf", 3), [("leaf", 4)]), True)
        self.assertIs(self.told(network, [0], ("series", 1), [("series", 1)]), False)
        for vertex in (-1, -4, 5, 10 ** 20):
            self.assertIs(self.told(network, [0], ("series", vertex)), False)

    def test_series_and_its_new_edge(self):
        network = Network(5, [(1, 2, 3), (1, 0, 4), (2, 3, 5), (4, 3, 9), (3, 4, 8)])
        rest, origins = rest_of(network, [0, 4], [("series", 1)])
        self.assertEqual(rest.edges(), [(2, 3, 5), (4, 3, 9), (3, 4, 8), (2, 0, 7)])
        self.assertEqual(origins, [[2], [3], [4], [0, 1]])
        rest, origins = rest_of(network, [0, 4], [("series", 1), ("series", 2), ("longer", 3, [4])])
        self.assertEqual(rest.edges(), [(3, 4, 8), (3, 0, 12)])
        self.assertEqual(origins, [[4], [0, 1, 2]])
        rest, origins = rest_of(network, [0, 4], [("longer", 3, [4]), ("series", 3), ("series", 1), ("series", 2)])
        self.assertEqual(rest.edges(), [(4, 0, 20)])
        self.assertEqual(origins, [[0, 1, 2, 4]])

    def test_series_at_the_greatest_price(self):
        for more, good in ((0, True), (1, False)):
            network = Network(3, [(0, 1, MILLION - 10), (1, 2, 10 + more)])
            self.assertIs(self.told(network, [0, 2], ("series", 1)), good)

    def test_longer(self):
        network = Network(4, [(0, 1, 5), (1, 2, 3), (2, 0, 2), (2, 0, 3), (3, 2, 0)])
        row = ("longer", 0, [2, 1])
        self.assertIs(self.told(network, [3], row), True)
        self.assertIs(self.told(network, [3], ("longer", 0, [3, 1])), False)
        self.assertIs(self.told(network, [2], ("longer", 0, [3, 1])), True)
        self.assertIs(self.told(network, [3], ("longer", 0, [3, 4, 4, 1])), True)
        self.assertIs(self.told(network, [1], ("longer", 0, [3, 4, 4, 1])), False)
        self.assertIs(self.told(network, [3], ("longer", 0, [])), False)
        self.assertIs(self.told(network, [3], ("longer", 0, [0])), False)
        self.assertIs(self.told(network, [2], ("longer", 0, [0, 0, 0])), False)
        self.assertIs(self.told(network, [3], ("longer", 0, [2])), False)
        self.assertIs(self.told(network, [3], ("longer", 0, [1, 2])), False)
        self.assertIs(self.told(network, [3], ("longer", 0, [1])), False)
        self.assertIs(self.told(network, [3], ("longer", 0, [2, 4])), False)
        self.assertIs(self.told(network, [3], ("longer", 0, [2, 1, 1])), False)
        self.assertIs(self.told(network, [3], ("longer", 3, [2])), True)
        self.assertIs(self.told(network, [3], ("longer", 2, [3])), False)
        for number in (-1, -5, 5, 10 ** 20):
            self.assertIs(self.told(network, [3], ("longer", number, [2, 1])), False)
            self.assertIs(self.told(network, [3], ("longer", 0, [2, number])), False)
            self.assertIs(self.told(network, [3], ("longer", 0, [number, 2, 1])), False)

    def test_walks_that_are_no_paths(self):
        # The prices are numbers of vertices, too.
        network = Network(4, [(0, 1, 9), (1, 2, 0), (2, 1, 0), (1, 3, 2), (2, 3, 1)])
        for walk in ([], [1], [2], [3], [4], [1, 1], [3, 4, 1], [4, 3], [2, 2, 2]):
            self.assertIs(self.told(network, [3], ("longer", 0, walk)), False)
        dice = random.Random(257)
        for network, terminals in samples(257, 300, (3, 5), (3, 8), (3, 9)):
            for _ in range(20):
                walk = dice.choices(range(-1, len(network.edges()) + 1), k=dice.randint(0, 3))
                self.told(network, terminals, ("longer", dice.randrange(len(network.edges())), walk))

    def test_numbers_from_the_end_are_none(self):
        network = Network(2, [(0, 1, 5), (1, 0, 5)])
        self.assertIs(self.told(network, [0], ("longer", 0, [1])), True)
        for row in (("longer", 0, [-1]), ("longer", -1, [0]), ("longer", -2, [1]), ("longer", 1, [-2]),
                    ("leaf", -1), ("leaf", -2)):
            self.assertIs(self.told(network, [0], row), False)

    def test_longer_with_edges_that_are_gone(self):
        network = Network(4, [(0, 1, 5), (1, 2, 3), (2, 0, 2), (2, 0, 2)])
        self.assertIs(self.told(network, [0, 1], ("longer", 0, [2, 1]), [("longer", 3, [2])]), True)
        self.assertIs(self.told(network, [0, 1], ("longer", 0, [3, 1]), [("longer", 3, [2])]), False)
        self.assertIs(self.told(network, [0, 1], ("longer", 2, [3]), [("longer", 3, [2])]), False)
        self.assertIs(self.told(network, [0, 1], ("longer", 3, [2]), [("longer", 3, [2])]), False)
        self.assertIs(self.told(network, [0, 1], ("longer", 0, [4]), [("longer", 3, [2]), ("series", 2)]), True)
        self.assertIs(self.told(network, [0, 1], ("longer", 0, [2, 1]), [("longer", 3, [2]), ("series", 2)]), False)
        self.assertIs(self.told(network, [0, 1], ("longer", 4, [0]), [("longer", 3, [2]), ("series", 2)]), True)

    def test_pieces_at_the_border(self):
        network = Network(5, [(0, 4, 7), (0, 1, 3), (1, 2, 4), (2, 3, 5), (3, 4, 2)])
        walk = [1, 2, 3, 4]
        for terminals, good in (([2], True), ([1], False), ([3], False), ([0, 4], False), ([1, 3], False),
                                ([2, 3], True), ([0, 2, 4], True), ([1, 2], True)):
            self.assertIs(self.told(network, terminals, ("longer", 0, walk)), good)
            self.assertIs(self.told(network.with_price(0, 6), terminals, ("longer", 0, walk)), False)

    def test_random_rows(self):
        dice = random.Random(256)
        counts = [0, 0]
        for network, terminals in samples(256, 500, (3, 6), (3, 10)):
            rows = random_rows(dice, network, terminals, 8)
            left, bad = behind(network, terminals, rows)
            counts[bad is None] += 1
            self.assertIs(self.steady(check_reduction, network, terminals, rows), bad is None)
            if bad is None:
                rest, origins = self.steady(rest_of, network, terminals, rows)
                self.assertEqual((rest.size(), (rest.edges(), origins)), (network.size(), left.rest()))
                before, after = told_tree(network, terminals), told_tree(rest, terminals)
                self.assertEqual(before is None, after is None)
                if after is not None:
                    back = lead_back(origins, after)
                    self.assertEqual(price_of(network, back), price_of(network, before))
            else:
                self.fails(BadRow, bad, rest_of, network, terminals, rows)
        self.assertGreater(min(counts), 50)


class Rests(Case):
    def test_bad_rows(self):
        network = Network(4, [(0, 1, 3), (1, 2, 4), (2, 3, 5)])
        for rows, at in (([("leaf", 0), ("leaf", 0)], 1), ([("leaf", 1)], 0), ([("series", 9), ("leaf", 9)], 0),
                         ([("leaf", 0), ("leaf", 1), ("longer", 2, [])], 2), ([("longer", 7, [7])], 0)):
            self.assertIs(check_reduction(network, [3], rows), False)
            self.fails(BadRow, at, rest_of, network, [3], rows)

    def test_no_rows(self):
        network = Network(3, [(0, 1, 3), (1, 2, 4)])
        rest, origins = rest_of(network, [0], [])
        self.assertEqual((rest.size(), rest.edges(), origins), (3, network.edges(), [[0], [1]]))
        self.assertIs(check_reduction(network, [0], []), True)

    def test_lead_back(self):
        origins = [[2], [0, 5], [1, 3, 4]]
        self.assertEqual(self.steady(lead_back, origins, []), [])
        self.assertEqual(self.steady(lead_back, origins, [1]), [0, 5])
        self.assertEqual(self.steady(lead_back, origins, [2, 0]), [1, 2, 3, 4])
        self.assertEqual(self.steady(lead_back, origins, [1, 2, 1, 0, 2]), [0, 1, 2, 3, 4, 5])

    def test_errors(self):
        network = Network(10, [(0, 1, 3), (1, 2, 4)])
        bad = [("leaf", 99), ("longer", -1, [])]
        for call, given in ((reduction, ()), (check_reduction, (bad,)), (rest_of, (bad,))):
            for many in (0, 9, 10):
                self.fails(OutOfRange, many, call, network, [77] * many, *given)
            for terminals, at in (([10], 0), ([-1], 0), ([0, 1, 0], 2), ([0, 0, 99], 1), ([5, -10], 1),
                                  (list(range(7)) + [6], 7)):
                self.fails(BadTerminal, at, call, network, terminals, *given)
        self.fails(BadRow, 0, rest_of, network, list(range(8)), bad)
