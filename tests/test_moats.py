"""Moats (points 504 and 508)."""

import random
from fractions import Fraction

from tests.cases import Case
from tests.programs import pair
from tests.samples import small_networks, sublists
from tests.test_forests import some_pairs
from trunkweb.errors import BadPair, BadPrize, BadVertex, OutOfRange
from trunkweb.forests.growing import quick_forest
from trunkweb.forests.moats import are_good, are_good_for_prizes, total
from trunkweb.forests.prizes import quick_choice
from trunkweb.networks.network import Network
from trunkweb.programs.fractions import is_fraction


def are_sets(network, moats):
    """Whether sets ascend and are not empty, and heights are fractions above 0."""
    for vertices, height in moats:
        if not vertices or sorted(set(vertices)) != vertices or not set(vertices) <= set(range(network.size())):
            return False
        if not is_fraction(height) or height[0] <= 0:
            return False
    return True


def are_paid(network, moats):
    """Whether each edge costs at least as much as the sets with one end of it."""
    for u, v, price in network.edges():
        if sum(Fraction(*height) for vertices, height in moats if (u in vertices) != (v in vertices)) > price:
            return False
    return True


def good(network, pairs, moats):
    """Point 504, word by word."""
    if not are_sets(network, moats) or not are_paid(network, moats):
        return False
    return all(any(len({u, v} & set(vertices)) == 1 for u, v in pairs) for vertices, _ in moats)


def good_for_prizes(network, root, prizes, moats):
    """Point 508, word by word."""
    if not are_sets(network, moats) or not are_paid(network, moats):
        return False
    sets = [set(vertices) for vertices, _ in moats]
    for k, one in enumerate(sets):
        if root in one or one in sets[:k]:
            return False
        for other in sets:
            if one & other and not one <= other and not other <= one:
                return False
        within = sum(Fraction(*height) for vertices, height in moats if set(vertices) <= one)
        if within > sum(prizes[vertex] for vertex in one):
            return False
    return True


def changed_moats(network, moats):
    """Moats that differ from the given ones in one place."""
    size = network.size()
    for k, (vertices, (n, d)) in enumerate(moats):
        others = [(vertices, height) for height in ((0, 1), (-n, d), (2 * n, 2 * d), (n, 0), (-n, -d), (n, -d), (0, 0))]
        others += [(vertices, pair(Fraction(n, d) + change)) for change in (1, Fraction(1, 3), -Fraction(1, 5))]
        others += [(vertices[::-1], (n, d)), (vertices + vertices[-1:], (n, d)), ([], (n, d)),
                   (vertices + [size], (n, d)), ([-1] + vertices, (n, d)), (list(range(size)), (n, d)),
                   ([v for v in range(size) if v not in vertices], (n, d))]
        others += [(sorted({*vertices, v}), (n, d)) for v in range(size)]
        yield moats[:k] + moats[k + 1:]
        yield moats + [moats[k]]
        yield from (moats[:k] + [other] + moats[k + 1:] for other in others)
    for vertices in sublists(range(size)):
        yield moats + [(vertices, (1, 4))]


class Total(Case):
    def test_total(self):
        self.assertEqual(total([]), (0, 1))
        self.assertEqual(self.steady(total, [([0], (1, 2)), ([1, 2], (1, 3))]), (5, 6))
        self.assertEqual(total([([0], (1, 2)), ([0], (1, 2))]), (1, 1))

    def test_great(self):
        moats = [([k], (3 ** k, 2 ** k)) for k in range(1, 90)]
        self.assertEqual(total(moats), pair(sum(Fraction(*height) for _, height in moats)))


class ForPairs(Case):
    # Moats of the pairs (0, 1) and (2, 3): both edges of price 2 are paid in full.
    network = Network(5, [(0, 1, 2), (2, 3, 2), (1, 2, 3), (3, 4, 1)])
    pairs = [(0, 1), (2, 3)]
    moats = [([0], (3, 2)), ([1], (1, 2)), ([2], (1, 1)), ([3], (1, 1))]

    def told(self, moats, network=None, pairs=None):
        network, pairs = network or self.network, pairs or self.pairs
        told = self.steady(are_good, network, pairs, moats)
        self.assertIs(told, good(network, pairs, moats))
        return told

    def test_good(self):
        self.assertIs(self.told(self.moats), True)
        self.assertIs(self.told([]), True)

    def test_sets(self):
        for vertices, is_good in (([0], True), ([1], True), ([], False), ([0, 1], False), ([0, 1, 2, 3, 4], False),
                                  ([4], False), ([0, 2], True), ([2, 0], False), ([0, 0], False), ([0, 5], False),
                                  ([-1, 0], False), ([0, 1, 2], True), ([0, 4], True), ([0, 10 ** 20], False)):
            self.assertIs(self.told([(vertices, (1, 8))]), is_good)

    def test_sets_that_cross_or_stand_twice(self):
        self.assertIs(self.told([([0, 2], (1, 2)), ([0, 3], (1, 2)), ([0], (1, 2)), ([0], (1, 2))]), True)
        self.assertIs(self.told([([0, 2], (1, 2)), ([0, 3], (1, 2)), ([0], (1, 2)), ([0], (2, 3))]), False)

    def test_heights(self):
        for height, is_good in (((2, 1), True), ((1, 3), True), ((0, 1), False), ((-1, 2), False), ((2, 2), False),
                                ((1, 0), False), ((1, -1), False), ((-1, -1), False), ((0, 0), False),
                                ((201, 100), False), ((199, 100), True), ((4, 2), False), ((0, 3), False)):
            self.assertIs(self.told([([0], height)]), is_good)

    def test_sums_at_the_border(self):
        for last, is_good in (((1, 6), True), ((1, 7), True), ((1, 5), False), ((167, 1000), False)):
            moats = [([0], (1, 2)), ([1], (4, 3)), ([0, 2], last)]
            self.assertIs(self.told(moats, Network(3, [(0, 1, 2)]), [(0, 1)]), is_good)

    def test_no_forest_is_cheaper(self):
        dice = random.Random(271)
        for network in small_networks(271, 150, (2, 6), (2, 9)):
            pairs = some_pairs(dice, network, 6)
            told = quick_forest(network, pairs)
            moats = told[1] if told else []
            for other in changed_moats(network, moats):
                self.told(other, network, pairs)

    def test_errors(self):
        network = Network(10, [(0, 1, 3)])
        for many in (0, 21, 30):
            self.fails(OutOfRange, many, are_good, network, [(77, 77)] * many, [([], (0, 0))])
        for pairs, at in (([(3, 3)], 0), ([(0, 10)], 0), ([(0, 1), (-1, 0), (2, 2)], 1), ([(0, 1)] * 19 + [(4, 4)], 19)):
            self.fails(BadPair, at, are_good, network, pairs, [([], (0, 0))])
        self.assertIs(are_good(network, [(0, 1)] * 20, [([1], (3, 1))]), True)


class ForPrizes(Case):
    network = Network(5, [(0, 1, 4), (1, 2, 6), (2, 3, 6), (3, 4, 6)])
    prizes = [9, 3, 5, 0, 1]

    def told(self, moats, network=None, root=0, prizes=None):
        network, prizes = network or self.network, prizes or self.prizes
        told = self.steady(are_good_for_prizes, network, root, prizes, moats)
        self.assertIs(told, good_for_prizes(network, root, prizes, moats))
        return told

    def test_good(self):
        self.assertIs(self.told([]), True)
        self.assertIs(self.told([([1], (1, 1)), ([2], (4, 1)), ([4], (1, 1)), ([1, 2], (2, 1))]), True)
        self.assertIs(self.told([([1], (3, 2)), ([2], (7, 2)), ([1, 2], (5, 2))]), True)

    def test_sets(self):
        for vertices, is_good in (([1], True), ([1, 2], True), ([1, 2, 3, 4], True), ([0], False), ([0, 1], False),
                                  ([], False), ([2, 1], False), ([2, 2], False), ([2, 5], False), ([-1, 2], False),
                                  ([3], False), ([3, 4], True), ([10 ** 20], False)):
            self.assertIs(self.told([(vertices, (1, 8))]), is_good)

    def test_the_root(self):
        for root in range(5):
            for vertex in range(5):
                self.assertIs(self.told([([vertex], (1, 1))], root=root), vertex not in (root, 3))

    def test_sets_that_cross_or_stand_twice(self):
        self.assertIs(self.told([([1, 2], (1, 8)), ([2, 3], (1, 8))]), False)
        self.assertIs(self.told([([1, 2], (1, 8)), ([2, 3, 4], (1, 8))]), False)
        self.assertIs(self.told([([1, 2], (1, 8)), ([1, 2], (1, 8))]), False)
        self.assertIs(self.told([([1, 2], (1, 8)), ([4], (1, 8)), ([1, 2], (1, 4))]), False)
        self.assertIs(self.told([([1, 2], (1, 8)), ([1, 2, 3], (1, 8)), ([3, 4], (1, 8))]), False)
        self.assertIs(self.told([([1, 2, 3, 4], (1, 8)), ([1, 2], (1, 8)), ([3, 4], (1, 8)), ([4], (1, 8))]), True)

    def test_heights(self):
        for height, is_good in (((3, 1), True), ((1, 3), True), ((0, 1), False), ((-1, 2), False), ((2, 2), False),
                                ((1, 0), False), ((1, -1), False), ((-1, -1), False), ((301, 100), False)):
            self.assertIs(self.told([([1], height)]), is_good)

    def test_too_great_for_an_edge(self):
        for height, is_good in (((4, 1), True), ((401, 100), False)):
            self.assertIs(self.told([([1, 2], height)]), is_good)
        for height, is_good in (((1, 1), True), ((11, 10), False)):
            self.assertIs(self.told([([1], (3, 1)), ([1, 2], height)]), is_good)

    def test_too_great_for_the_prizes(self):
        network = Network(5, [(0, 1, 99)])
        for height, is_good in (((3, 2), True), ((8, 5), False)):
            self.assertIs(self.told([([1, 2, 4], (1, 2)), ([1, 2], height), ([1], (3, 1)), ([2], (7, 2))], network),
                          is_good)
        for height, is_good in (((1, 1), True), ((4, 3), True), ((3, 2), False)):
            self.assertIs(self.told([([1, 2, 4], height), ([1, 2], (2, 3)), ([1], (3, 1)), ([2], (4, 1))], network),
                          is_good)

    def test_changed(self):
        dice = random.Random(272)
        for network in small_networks(272, 80, (1, 6), (0, 9)):
            root = dice.randrange(network.size())
            prizes = [dice.choice((0, 1, 2, 7)) for _ in range(network.size())]
            for other in changed_moats(network, quick_choice(network, root, prizes)[1]):
                self.told(other, network, root, prizes)

    def test_errors(self):
        network = Network(3, [(0, 1, 3)])
        bad = [([], (0, 0))]
        for root in (3, -1, 10 ** 20):
            self.fails(BadVertex, root, are_good_for_prizes, network, root, [-1], bad)
        for many in (0, 2, 4):
            self.fails(BadPrize, many, are_good_for_prizes, network, 0, [-1] * many, bad)
        for prizes, at in (([0, -1, 10 ** 20], 1), ([2 ** 20 + 1, 0, -1], 0), ([0, 2 ** 20, -1], 2)):
            self.fails(BadPrize, at, are_good_for_prizes, network, 0, prizes, bad)
        self.assertIs(are_good_for_prizes(network, 0, [0, 2 ** 20, 0], [([1], (3, 1))]), True)
