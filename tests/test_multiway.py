"""Multiway cuts, their bound, the told labelling and case papers (points 903 to 906)."""

import random
import time
import unittest
from fractions import Fraction
from itertools import product

from tests.cases import Case
from tests.programs import MILLION, pair
from tests.samples import random_network, reach, small_networks, sublists
from tests.test_isolating import near_side, some_terminals, value_of
from trunkweb.errors import BadTerminal, OutOfRange, TooMany
from trunkweb.multicuts.multiway import check_bound, check_multiway, least_multiway, multiway_bound, price_of
from trunkweb.multicuts.multiway import quick_multiway
from trunkweb.networks.network import Network

LINE = Network(4, [(0, 1, 3), (2, 1, 2), (2, 3, 5)])
STAR = Network(4, [(3, 0, 2), (3, 1, 2), (2, 3, 2)])


def price(network, labels):
    """Point 903: the price of labels."""
    return sum(p for u, v, p in network.edges() if labels[u] != labels[v])


def is_labelling(network, terminals, labels):
    """Point 903: whether a list is a labelling."""
    k = len(terminals)
    if len(labels) != network.size() or any(label not in range(k) for label in labels):
        return False
    return all(labels[vertex] == j for j, vertex in enumerate(terminals))


def labellings(network, terminals):
    """All labellings, in their order."""
    rows = [[terminals.index(v)] if v in terminals else range(len(terminals)) for v in range(network.size())]
    return [list(labels) for labels in product(*rows)]


def is_enough(first, number, told, told_price):
    """Point 906: whether a paper with a number is accepted for the first labels."""
    if first > told[:len(first)] and number >= told_price or number > told_price:
        return True
    return len(first) == len(told) and first == told


def accepted(network, terminals, told, told_price, first, paper):
    """Point 906, word by word."""
    size, k = network.size(), len(terminals)
    if paper[0] == "cases":
        if len(first) == size:
            return False
        labels = [terminals.index(len(first))] if len(first) in terminals else list(range(k))
        return len(paper[1]) == len(labels) and all(
            accepted(network, terminals, told, told_price, first + [label], part)
            for label, part in zip(labels, paper[1]))
    if paper[0] == "bound":
        groups = [[vertex] + [v for v, label in enumerate(first) if label == j and v not in terminals]
                  for j, vertex in enumerate(terminals)]
        if len(paper[1]) != k:
            return False
        values = [value_of(network, groups, j, flow) for j, flow in enumerate(paper[1])]
        if None in values:
            return False
        return is_enough(first, -(-sum(values) // 2), told, told_price)
    return paper[0] == "end" and len(first) == size and is_enough(first, price(network, first), told, told_price)


def changed_papers(paper, dice):
    """Case papers that differ from a given one."""
    yield ("end",)
    if paper[0] == "bound":
        flows = paper[1]
        yield ("bound", flows[:-1])
        yield ("bound", flows + [flows[0]])
        yield ("bound", flows[::-1])
        yield ("cases", [paper])
        yield ("cases", [])
        j = dice.randrange(len(flows))
        yield ("bound", flows[:j] + [[0] * len(flows[j])] + flows[j + 1:])
        yield ("bound", flows[:j] + [flows[j] + [0]] + flows[j + 1:])
        for e in range(len(flows[j])):
            for change in (-1, 1):
                flow = flows[j][:e] + [flows[j][e] + change] + flows[j][e + 1:]
                yield ("bound", flows[:j] + [flow] + flows[j + 1:])
    elif paper[0] == "cases":
        papers = paper[1]
        yield ("cases", papers[:-1])
        yield ("cases", papers + [papers[0]])
        yield ("cases", papers[::-1])
        yield ("cases", [])
        yield ("cases", [paper])
        yield ("bound", [])
        yield papers[0]
        j = dice.randrange(len(papers))
        for part in changed_papers(papers[j], dice):
            yield ("cases", papers[:j] + [part] + papers[j + 1:])
    else:
        yield ("cases", [paper])
        yield ("cases", [])


class QuickCuts(Case):
    def test_against_the_points(self):
        halves = 0
        for network, terminals in some_terminals(471, 300):
            k = len(terminals)
            sides = [near_side(network, terminals, j) for j in range(k)]
            capacities = [capacity for capacity, _ in sides]
            d = capacities.index(max(capacities))
            labels = [d] * network.size()
            for j, (_, side) in enumerate(sides):
                for vertex in side if j != d else ():
                    labels[vertex] = j
            told, found, flows = self.steady(quick_multiway, network, terminals)
            self.assertEqual((told, found), (price(network, labels), labels))
            self.assertTrue(is_labelling(network, terminals, labels))
            bound = self.steady(multiway_bound, network, terminals)
            self.assertEqual(bound, pair(Fraction(sum(capacities), 2)))
            halves += bound[1] == 2
            self.assertIs(self.steady(check_bound, network, terminals, flows, bound), True)
            least = min(price(network, other) for other in labellings(network, terminals))
            self.assertLessEqual(Fraction(*bound), least)
            self.assertLessEqual(told, (2 - Fraction(2, k)) * Fraction(*bound))
        self.assertGreater(halves, 0)

    def test_the_first_of_the_dearest(self):
        # All three near sides have the capacity 2: the first terminal takes the middle.
        self.assertEqual(quick_multiway(STAR, [0, 1, 2])[:2], (4, [0, 1, 2, 0]))
        self.assertEqual(multiway_bound(STAR, [0, 1, 2]), (3, 1))
        dear = Network(4, [(3, 0, 2), (3, 1, 3), (2, 3, 3)])
        self.assertEqual(quick_multiway(dear, [0, 1, 2])[:2], (5, [0, 1, 2, 1]))
        self.assertEqual(multiway_bound(dear, [0, 1, 2]), (4, 1))
        self.assertEqual(multiway_bound(dear.with_price(0, 1), [0, 1, 2]), (7, 2))

    def test_great_networks(self):
        network = random_network(random.Random(472), 40, 200, MILLION)
        before = time.perf_counter()
        terminals = [0, 3, 7, 12, 18, 25, 33, 39]
        told, labels, flows = quick_multiway(network, terminals)
        bound = multiway_bound(network, terminals)
        self.assertTrue(check_bound(network, terminals, flows, bound))
        self.assertEqual(price_of(network, labels), told)
        self.assertLessEqual(told, Fraction(7, 4) * Fraction(*bound))
        self.assertLess(time.perf_counter() - before, 10)

    def test_multiway_cuts_are_no_cheaper_than_labellings(self):
        for network, terminals in some_terminals(473, 40, sizes=(2, 4), many=(0, 6)):
            edges = network.edges()
            cuts = []
            for cut in sublists(range(len(edges))):
                left = [number for number in range(len(edges)) if number not in cut]
                parts = [reach(network, vertex, False, left) for vertex in terminals]
                if all(other == vertex or other not in part for vertex, part in zip(terminals, parts)
                       for other in terminals):
                    cuts.append(sum(edges[number][2] for number in cut))
            self.assertEqual(least_multiway(network, terminals)[0], min(cuts))


class Bounds(Case):
    def test_changed_flows(self):
        dice = random.Random(474)
        counts = [0, 0]
        for network, terminals in some_terminals(475, 150):
            groups = [[vertex] for vertex in terminals]
            flows = quick_multiway(network, terminals)[2]
            for _ in range(12):
                other = [list(flow) for flow in flows]
                for _ in range(dice.randint(0, 2)):
                    flow = dice.choice(other)
                    if flow:
                        flow[dice.randrange(len(flow))] += dice.choice((-1, 1))
                if dice.random() < 0.3:
                    other[dice.randrange(len(other))] = [0] * len(network.edges())
                values = [value_of(network, groups, j, flow) for j, flow in enumerate(other)]
                bound = pair(Fraction(sum(value or 0 for value in values) + dice.choice((0, 0, 1)), 2))
                good = None not in values and pair(Fraction(sum(values), 2)) == bound
                self.assertIs(self.steady(check_bound, network, terminals, other, bound), good)
                counts[good] += 1
        self.assertGreater(min(counts), 300)

    def test_each_condition_alone(self):
        # What flows from each terminal to the other two, through the vertex 3.
        flows = [[-2, 1, -1], [1, -2, -1], [1, 1, 2]]
        self.assertIs(check_bound(STAR, [0, 1, 2], flows, (3, 1)), True)
        for bound in ((2, 1), (4, 1), (6, 2), (-3, -1), (3, 0), (0, 1), (0, 0), (7, 2), (1, 3)):
            self.assertIs(check_bound(STAR, [0, 1, 2], flows, bound), False)
        self.assertIs(check_bound(STAR, [0, 1, 2], flows[:2], (2, 1)), False)
        self.assertIs(check_bound(STAR, [0, 1, 2], flows + [[0, 0, 0]], (3, 1)), False)
        self.assertIs(check_bound(STAR, [0, 1, 2], [], (0, 1)), False)
        self.assertIs(check_bound(STAR, [0, 1, 2], flows[:2] + [[0, 0, 0]], (2, 1)), True)
        self.assertIs(check_bound(STAR, [0, 1, 2], flows[:2] + [[0, 0, 0]], (4, 2)), False)
        self.assertIs(check_bound(STAR, [0, 1, 2], flows[:2] + [[0, 0]], (2, 1)), False)
        self.assertIs(check_bound(STAR, [0, 1, 2], flows[:2] + [[0, 0, 2]], (3, 1)), False)
        self.assertIs(check_bound(STAR, [0, 1, 2], flows[:2] + [[0, -3, 3]], (7, 2)), False)

    def test_prices_of_labels(self):
        for network in small_networks(476, 100):
            labels = [vertex % 3 - 1 for vertex in range(network.size())]
            self.assertEqual(self.steady(price_of, network, labels), price(network, labels))
        self.assertEqual(price_of(LINE, [7, 7, -1, -1]), 2)
        self.assertEqual(price_of(LINE, [0, 10 ** 20, 0, 1]), 10)
        self.assertEqual(price_of(Network(1, []), [4]), 0)


class LeastCuts(Case):
    def test_against_all_labellings(self):
        for network, terminals in some_terminals(477, 250):
            best = min((price(network, labels), labels) for labels in labellings(network, terminals))
            told, labels, paper = self.steady(least_multiway, network, terminals)
            self.assertEqual((told, labels), best)
            self.assertIs(self.steady(check_multiway, network, terminals, labels, told, paper), True)
            self.assertTrue(accepted(network, terminals, labels, told, [], paper))

    def test_more_vertices(self):
        for network, terminals in some_terminals(479, 20, most=6, sizes=(6, 8), many=(8, 20)):
            best = min((price(network, labels), labels) for labels in labellings(network, terminals))
            told, labels, paper = least_multiway(network, terminals)
            self.assertEqual((told, labels), best)
            self.assertIs(check_multiway(network, terminals, labels, told, paper), True)

    def test_papers_of_other_labellings_are_not_accepted(self):
        for network, terminals in some_terminals(480, 60, sizes=(2, 5)):
            told, labels, paper = least_multiway(network, terminals)
            for other in labellings(network, terminals):
                answer = check_multiway(network, terminals, other, price(network, other), paper)
                self.assertIs(answer, other == labels)

    def test_changed_papers(self):
        dice = random.Random(481)
        counts = [0, 0]
        for network, terminals in some_terminals(482, 80, sizes=(2, 5), many=(1, 7)):
            told, labels, paper = least_multiway(network, terminals)
            for other in changed_papers(paper, dice):
                answer = self.steady(check_multiway, network, terminals, labels, told, other)
                self.assertIs(answer, accepted(network, terminals, labels, told, [], other))
                counts[answer] += 1
        self.assertGreater(min(counts), 40)

    def test_papers_made_by_hand(self):
        dice = random.Random(483)
        counts = [0, 0]

        def some_paper(network, terminals, first):
            if len(first) == network.size():
                return ("end",)
            if dice.random() < 0.15:
                nothing = [[0] * len(network.edges()) for _ in terminals]
                return ("bound", nothing)
            labels = [terminals.index(len(first))] if len(first) in terminals else range(len(terminals))
            return ("cases", [some_paper(network, terminals, first + [label]) for label in labels])

        for network, terminals in some_terminals(484, 300, sizes=(2, 4), most=3):
            labels = dice.choice(labellings(network, terminals))
            if dice.random() < 0.7:
                labels = min((price(network, known), known) for known in labellings(network, terminals))[1]
            paper = some_paper(network, terminals, [])
            told = price(network, labels)
            answer = check_multiway(network, terminals, labels, told, paper)
            self.assertIs(answer, accepted(network, terminals, labels, told, [], paper))
            counts[answer] += 1
        self.assertGreater(min(counts), 50)

    def test_lists_that_are_no_labellings(self):
        told, labels, paper = least_multiway(LINE, [0, 3])
        self.assertEqual((told, labels), (2, [0, 0, 1, 1]))
        self.assertIs(check_multiway(LINE, [0, 3], labels, told, paper), True)
        for number in (1, 3, -2, 0):
            self.assertIs(check_multiway(LINE, [0, 3], labels, number, paper), False)
        for other, number in (([1, 1, 0, 0], 2), ([0, 0, 1], 2), ([0, 0, 1, 1, 1], 2), ([0, 0, 1, 2], 7), ([], 0),
                              ([0, -1, 1, 1], 5), ([0, 0, 0, 0], 0), ([1, 1, 1, 1], 0)):
            self.assertIs(check_multiway(LINE, [0, 3], other, number, paper), False)

    def test_labels_that_are_none(self):
        # The vertex 1 has no edge: a label below 0 would be as cheap as all others, and ahead of them.
        network = Network(3, [(0, 2, 1)])
        full = ("cases", [("cases", [("cases", [("end",)]), ("cases", [("end",)])])])
        self.assertIs(check_multiway(network, [0, 2], [0, 0, 1], 1, full), True)
        for label in (-1, -5, 1, 2, 10 ** 20):
            self.assertIs(check_multiway(network, [0, 2], [0, label, 1], 1, full), False)

    def test_papers_are_small(self):
        dice = random.Random(486)
        for many in (20, 40, 66):
            network = random_network(dice, 12, many, MILLION)
            paper = least_multiway(network, [0, 3, 5, 8, 11])[2]
            # There are 78125 labellings.
            self.assertLess(str(paper).count("bound") + str(paper).count("end"), 3000)

    def test_each_kind_of_paper(self):
        network = Network(3, [(0, 1, 1), (1, 2, 1)])
        # The vertex 1 has the label 0 or 1, and both cost 1.
        full = ("cases", [("cases", [("cases", [("end",)]), ("cases", [("end",)])])])
        self.assertIs(check_multiway(network, [0, 2], [0, 0, 1], 1, full), True)
        self.assertIs(check_multiway(network, [0, 2], [0, 1, 1], 1, full), False)
        flows = [[1, 1], [-1, -1]]
        short = ("cases", [("cases", [("cases", [("end",)]), ("bound", flows)])])
        self.assertIs(check_multiway(network, [0, 2], [0, 0, 1], 1, short), True)
        # At equal prices the first labels must be behind those of the told labelling.
        self.assertIs(check_multiway(network, [0, 2], [0, 0, 1], 1, ("bound", flows)), False)
        self.assertIs(check_multiway(network, [0, 2], [0, 0, 1], 1, ("cases", [("bound", flows)])), False)
        # For all labels of the told labelling any number will do, but it must be shown.
        last = ("cases", [("cases", [("cases", [("bound", [[0, 0], [0, 0]])]), ("bound", flows)])])
        self.assertIs(check_multiway(network, [0, 2], [0, 0, 1], 1, last), True)
        bad = ("cases", [("cases", [("cases", [("bound", [[0, 2], [0, 0]])]), ("bound", flows)])])
        self.assertIs(check_multiway(network, [0, 2], [0, 0, 1], 1, bad), False)
        deep = ("cases", [("cases", [("cases", [("cases", [])]), ("bound", flows)])])
        self.assertIs(check_multiway(network, [0, 2], [0, 0, 1], 1, deep), False)
        deep = ("cases", [("cases", [("cases", [("cases", [("end",)])]), ("bound", flows)])])
        self.assertIs(check_multiway(network, [0, 2], [0, 0, 1], 1, deep), False)
        early = ("cases", [("cases", [("end",), ("bound", flows)])])
        self.assertIs(check_multiway(network, [0, 2], [0, 0, 1], 1, early), False)
        # Half of the values is rounded up: the label 1 of vertex 1 is shown by a sum of 1, too.
        odd = ("cases", [("cases", [("cases", [("end",)]), ("bound", [[1, 1], [0, 0]])])])
        self.assertIs(check_multiway(network, [0, 2], [0, 0, 1], 1, odd), True)
        none = ("cases", [("cases", [("cases", [("end",)]), ("bound", [[0, 0], [0, 0]])])])
        self.assertIs(check_multiway(network, [0, 2], [0, 0, 1], 1, none), False)
        for kind in (("price",), ("few",), ("none",)):
            other = ("cases", [("cases", [("cases", [kind]), ("bound", flows)])])
            self.assertIs(check_multiway(network, [0, 2], [0, 0, 1], 1, other), False)

    def test_twelve_vertices(self):
        dice = random.Random(485)
        for most, many, k in ((1, 20, 3), (3, 40, 5), (MILLION, 66, 8), (9, 200, 8), (MILLION, 30, 6)):
            network = random_network(dice, 12, many, most)
            terminals = sorted(dice.sample(range(12), k))
            before = time.perf_counter()
            told, labels, paper = least_multiway(network, terminals)
            self.assertIs(check_multiway(network, terminals, labels, told, paper), True)
            self.assertLess(time.perf_counter() - before, 20)
            self.assertLessEqual(Fraction(*multiway_bound(network, terminals)), told)
            self.assertLessEqual(told, quick_multiway(network, terminals)[0])

    def test_where_all_labellings_cost_the_same(self):
        # Each vertex in the middle keeps one of its edges.
        network = Network(12, [(u, v, 1) for u in range(4) for v in range(8, 12)] +
                          [(u, v, 1) for u in range(4, 8) for v in range(8, 12)])
        told, labels, paper = least_multiway(network, list(range(8)))
        self.assertEqual((told, labels), (28, list(range(8)) + [0] * 4))
        self.assertIs(check_multiway(network, list(range(8)), labels, told, paper), True)


class Errors(Case):
    def fails_all(self, error, at, network, terminals):
        self.fails(error, at, quick_multiway, network, terminals)
        self.fails(error, at, multiway_bound, network, terminals)
        self.fails(error, at, check_bound, network, terminals, [[9]], (1, 0))
        self.fails(error, at, least_multiway, network, terminals)
        self.fails(error, at, check_multiway, network, terminals, [9], -1, ("end",))

    def test_terminals(self):
        wide = Network(13, [])
        for many in (0, 1, 9, 13):
            self.fails_all(OutOfRange, many, wide, list(range(many)))
        for terminals, at in (([0, 0], 1), ([1, 0], 1), ([-1, 0], 0), ([0, 13], 1), ([0, 2, 1, 99], 2)):
            self.fails_all(BadTerminal, at, wide, terminals)

    def test_too_many(self):
        for size in (13, 40):
            wide = Network(size, [])
            self.fails(TooMany, size, least_multiway, wide, [0, 12])
            self.fails(TooMany, size, check_multiway, wide, [0, 12], [9], -1, ("end",))
            self.assertEqual(multiway_bound(wide, [0, 12]), (0, 1))
        self.assertEqual(least_multiway(Network(12, []), [0, 11])[:2], (0, [0] * 11 + [1]))


if __name__ == "__main__":
    unittest.main()
