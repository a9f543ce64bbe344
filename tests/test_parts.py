"""Cuts into parts, the told parting and parting papers (points 907 to 909)."""

import random
import time
import unittest
from fractions import Fraction
from itertools import product

from tests.cases import Case
from tests.programs import MILLION, pair
from tests.samples import great_network, random_network, reach, small_networks, sublists
from tests.test_multiway import price
from trunkweb.errors import OutOfRange, TooMany
from trunkweb.flows.cuttrees import cut_tree
from trunkweb.multicuts.parts import check_parts, least_parts, parts_bound, quick_parts
from trunkweb.networks.network import Network

LINE = Network(4, [(0, 1, 3), (2, 1, 2), (2, 3, 5)])


def is_parting(size, k, labels):
    """Point 907, word by word."""
    if len(labels) != size or labels[0] != 0:
        return False
    if any(not 0 <= label <= max(labels[:at]) + 1 for at, label in enumerate(labels) if at > 0):
        return False
    return max(labels) == k - 1


def partings(size, k):
    """All partings into k parts, in their order."""
    return [list(labels) for labels in product(range(k), repeat=size) if is_parting(size, k, list(labels))]


def accepted(network, k, told, told_price, first, paper):
    """Point 909, word by word."""
    size = network.size()
    greatest = max(first, default=-1)
    if paper[0] == "cases":
        if len(first) == size:
            return False
        labels = list(range(min(greatest + 1, k - 1) + 1))
        return len(paper[1]) == len(labels) and all(
            accepted(network, k, told, told_price, first + [label], part) for label, part in zip(labels, paper[1]))
    if paper[0] == "few":
        return size - len(first) < k - 1 - greatest
    number = sum(p for u, v, p in network.edges() if max(u, v) < len(first) and first[u] != first[v])
    if first > told[:len(first)] and number >= told_price or number > told_price:
        return True
    return paper[0] == "price" and len(first) == size and first == told


def changed_papers(paper, dice):
    """Parting papers that differ from a given one."""
    for kind in ("few", "price"):
        if paper[0] != kind:
            yield (kind,)
    yield ("cases", [paper])
    yield ("cases", [])
    if paper[0] == "cases":
        papers = paper[1]
        yield ("cases", papers[:-1])
        yield ("cases", papers + [papers[0]])
        yield ("cases", papers[::-1])
        yield papers[0]
        j = dice.randrange(len(papers))
        for part in changed_papers(papers[j], dice):
            yield ("cases", papers[:j] + [part] + papers[j + 1:])


def all_parts(seed, count, sizes=(2, 5), many=(0, 8)):
    """Small networks with each number of parts."""
    for network in small_networks(seed, count, sizes, many):
        for k in range(2, network.size() + 1):
            yield network, k


class QuickParts(Case):
    def test_against_the_points(self):
        halves = 0
        for network, k in all_parts(491, 120):
            told, labels = self.steady(quick_parts, network, k)
            self.assertTrue(is_parting(network.size(), k, labels))
            self.assertEqual(told, price(network, labels))
            weights = sorted(row[2] for row in cut_tree(network)[0])[:k - 1]
            bound = Fraction(k * sum(weights), 2 * k - 2)
            self.assertEqual(self.steady(parts_bound, network, k), pair(bound))
            halves += bound.denominator > 1
            least = min(price(network, other) for other in partings(network.size(), k))
            self.assertTrue(bound <= least <= told <= sum(weights))
        self.assertGreater(halves, 20)

    def test_what_is_left_of_the_tree(self):
        for network, k in all_parts(492, 80, (2, 7), (3, 14)):
            tree = cut_tree(network)[0]
            cut = sorted(range(len(tree)), key=lambda number: (tree[number][2], number))[:k - 1]
            left = Network(network.size(), [(u, v, 0) for at, (u, v, _) in enumerate(tree) if at not in cut])
            labels = quick_parts(network, k)[1]
            for u in range(network.size()):
                for v in range(network.size()):
                    self.assertEqual(labels[u] == labels[v], v in reach(left, u, False))

    def test_a_line(self):
        self.assertEqual(quick_parts(LINE, 2), (2, [0, 0, 1, 1]))
        self.assertEqual(quick_parts(LINE, 3), (5, [0, 1, 2, 2]))
        self.assertEqual(quick_parts(LINE, 4), (10, [0, 1, 2, 3]))
        self.assertEqual([parts_bound(LINE, k) for k in (2, 3, 4)], [(2, 1), (15, 4), (20, 3)])

    def test_great_networks(self):
        network = great_network(493)
        before = time.perf_counter()
        for k in (2, 3, 20, 40):
            told, labels = quick_parts(network, k)
            self.assertTrue(is_parting(40, k, labels))
            self.assertEqual(told, price(network, labels))
            self.assertLessEqual(told, (2 - Fraction(2, k)) * Fraction(*parts_bound(network, k)))
        self.assertLess(time.perf_counter() - before, 30)


class LeastParts(Case):
    def test_against_all_partings(self):
        for network, k in all_parts(494, 150):
            best = min((price(network, labels), labels) for labels in partings(network.size(), k))
            told, labels, paper = self.steady(least_parts, network, k)
            self.assertEqual((told, labels), best)
            self.assertIs(self.steady(check_parts, network, k, labels, told, paper), True)
            self.assertTrue(accepted(network, k, labels, told, [], paper))

    def test_partings_are_as_cheap_as_cuts(self):
        for network, k in all_parts(495, 40, (2, 4), (0, 6)):
            edges = network.edges()
            cuts = []
            for cut in sublists(range(len(edges))):
                left = [number for number in range(len(edges)) if number not in cut]
                parts = {tuple(sorted(reach(network, vertex, False, left))) for vertex in range(network.size())}
                if len(parts) >= k:
                    cuts.append(sum(edges[number][2] for number in cut))
            self.assertEqual(least_parts(network, k)[0], min(cuts))

    def test_papers_of_other_partings_are_not_accepted(self):
        for network, k in all_parts(496, 40, (2, 4)):
            told, labels, paper = least_parts(network, k)
            for other in partings(network.size(), k):
                answer = check_parts(network, k, other, price(network, other), paper)
                self.assertIs(answer, other == labels)

    def test_changed_papers(self):
        dice = random.Random(497)
        counts = [0, 0]
        for network, k in all_parts(498, 60):
            told, labels, paper = least_parts(network, k)
            for other in changed_papers(paper, dice):
                answer = self.steady(check_parts, network, k, labels, told, other)
                self.assertIs(answer, accepted(network, k, labels, told, [], other))
                counts[answer] += 1
        self.assertGreater(min(counts), 40)

    def test_papers_made_by_hand(self):
        dice = random.Random(499)
        counts = [0, 0]

        def some_paper(network, k, first):
            greatest = max(first, default=-1)
            if network.size() - len(first) < k - 1 - greatest:
                return ("few",)
            if len(first) == network.size() or dice.random() < 0.15:
                return ("price",)
            labels = range(min(greatest + 1, k - 1) + 1)
            return ("cases", [some_paper(network, k, first + [label]) for label in labels])

        for network, k in all_parts(500, 150):
            known = partings(network.size(), k)
            labels = dice.choice(known)
            if dice.random() < 0.7:
                labels = min((price(network, other), other) for other in known)[1]
            paper = some_paper(network, k, [])
            answer = check_parts(network, k, labels, price(network, labels), paper)
            self.assertIs(answer, accepted(network, k, labels, price(network, labels), [], paper))
            counts[answer] += 1
        self.assertGreater(min(counts), 50)

    def test_each_kind_of_paper(self):
        network = Network(3, [(0, 1, 1), (1, 2, 1)])
        # 0, 0, 1 costs 1; 0, 1, 0 costs 2; 0, 1, 1 costs 1.
        two = ("cases", [("few",), ("price",)])
        paper = ("cases", [("cases", [two, ("price",)])])
        self.assertIs(check_parts(network, 2, [0, 0, 1], 1, paper), True)
        self.assertIs(check_parts(network, 2, [0, 1, 1], 1, paper), False)
        self.assertIs(check_parts(network, 2, [0, 0, 1], 1, ("cases", [("cases", [two, ("few",)])])), False)
        # 0, 0, 0 is no parting, but its price is not enough.
        other = ("cases", [("cases", [("cases", [("price",), ("price",)]), ("price",)])])
        self.assertIs(check_parts(network, 2, [0, 0, 1], 1, other), False)
        # With all labels there are no cases.
        for last in (("cases", []), ("cases", [("price",)]), ("cases", [("price",)] * 2), ("end",), ("bound", []), ("few",)):
            deep = ("cases", [("cases", [("cases", [("few",), last]), ("price",)])])
            self.assertIs(check_parts(network, 2, [0, 0, 1], 1, deep), False)
        # The first vertex has the label 0 alone, later ones not more than k - 1.
        self.assertIs(check_parts(network, 2, [0, 0, 1], 1, ("cases", paper[1] * 2)), False)
        self.assertIs(check_parts(network, 2, [0, 0, 1], 1, ("price",)), False)
        self.assertIs(check_parts(network, 2, [0, 0, 1], 1, ("few",)), False)
        three = ("cases", [("cases", [("few",), ("cases", [("few",), ("few",), ("price",)])])])
        self.assertIs(check_parts(network, 3, [0, 1, 2], 2, three), True)
        self.assertIs(check_parts(network, 3, [0, 1, 2], 2, ("cases", [("cases", [("few",), ("price",)])])), False)

    def test_lists_that_are_no_partings(self):
        told, labels, paper = least_parts(LINE, 2)
        self.assertEqual((told, labels), (2, [0, 0, 1, 1]))
        self.assertIs(check_parts(LINE, 2, labels, told, paper), True)
        for number in (1, 3, 0, -2):
            self.assertIs(check_parts(LINE, 2, labels, number, paper), False)
        for other, number in (([1, 1, 0, 0], 2), ([0, 0, 1], 2), ([0, 0, 1, 1, 1], 2), ([0, 0, 2, 2], 2), ([], 0),
                              ([0, 0, 0, 0], 0), ([0, 0, 1, 2], 7), ([0, 0, -1, -1], 2), ([-1, -1, 0, 0], 2)):
            self.assertIs(check_parts(LINE, 2, other, number, paper), False)
        for other in ([0, 2, 1, 1], [1, 0, 2, 2], [0, 1, 1, 1], [0, 1, 3, 3], [0, 1, 2, 3]):
            self.assertIs(check_parts(LINE, 3, other, price(LINE, other), ("few",)), False)
            self.assertIs(check_parts(LINE, 3, other, price(LINE, other), least_parts(LINE, 3)[2]), False)

    def test_labels_that_are_none(self):
        # Without edges all partings cost 0: labels below 0 would be ahead of all of them.
        network = Network(3, [])
        full = ("cases", [("cases", [("cases", [("few",), ("price",)]), ("price",)])])
        self.assertIs(check_parts(network, 2, [0, 0, 1], 0, full), True)
        for labels in ([0, -1, 1], [0, -5, 1], [-1, 0, 1], [0, 1, 0], [0, 0, 10 ** 20], [0, 2, 1]):
            self.assertIs(check_parts(network, 2, labels, 0, full), False)

    def test_nine_vertices(self):
        dice = random.Random(501)
        complete = Network(9, [(u, v, 1) for u in range(9) for v in range(u)])
        for network in (random_network(dice, 9, 200, MILLION), random_network(dice, 9, 12, 9), complete):
            for k in range(2, 10):
                before = time.perf_counter()
                told, labels, paper = least_parts(network, k)
                self.assertIs(check_parts(network, k, labels, told, paper), True)
                self.assertLess(time.perf_counter() - before, 10)
                self.assertTrue(is_parting(9, k, labels))
                self.assertLessEqual(Fraction(*parts_bound(network, k)), told)
                self.assertLessEqual(told, quick_parts(network, k)[0])

    def test_ends(self):
        self.assertEqual(least_parts(Network(2, []), 2)[:2], (0, [0, 1]))
        self.assertEqual(least_parts(Network(2, [(1, 0, 4), (0, 1, 3)]), 2)[:2], (7, [0, 1]))
        self.assertEqual(least_parts(Network(9, []), 9)[:2], (0, list(range(9))))


class Errors(Case):
    def fails_all(self, error, at, network, k):
        self.fails(error, at, quick_parts, network, k)
        self.fails(error, at, parts_bound, network, k)
        self.fails(error, at, least_parts, network, k)
        self.fails(error, at, check_parts, network, k, [9], -1, ("few",))

    def test_numbers_of_parts(self):
        for size in (1, 2, 4, 9, 10, 40):
            for k in (0, 1, -1, size + 1, 10 ** 20):
                self.fails_all(OutOfRange, k, Network(size, []), k)
        self.fails_all(OutOfRange, 2, Network(1, []), 2)

    def test_too_many(self):
        for size in (10, 40):
            wide = Network(size, [])
            self.fails(TooMany, size, least_parts, wide, 2)
            self.fails(TooMany, size, check_parts, wide, 2, [9], -1, ("few",))
            self.assertEqual(parts_bound(wide, 2), (0, 1))
            self.assertEqual(quick_parts(wide, size), (0, list(range(size))))


if __name__ == "__main__":
    unittest.main()
