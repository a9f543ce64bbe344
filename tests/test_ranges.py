"""Ranges of prices and rivals (points 1002 and 1003)."""

import unittest

from tests.cases import Case
from tests.programs import MILLION
from tests.samples import great_network, price_of
from tests.tasks import KINDS, least_of, lists_for, some_tasks, told_of
from trunkweb.errors import BadEdge
from trunkweb.networks.network import Network
from trunkweb.prices.ranges import price_range, rival
from trunkweb.prices.tasks import answer, least_price, serves

# A path of two edges and one edge beside it; the last edge is a bridge.
NET = Network(4, [(0, 1, 2), (1, 2, 3), (0, 2, 9), (2, 3, 4)])


def price_with(network, numbers, number, p):
    """The price of a list if one edge costs another price, also a great one."""
    return price_of(network, numbers) + numbers.count(number) * (p - network.edges()[number][2])


class Ranges(Case):
    def test_each_price(self):
        seen = {}
        for network, task in some_tasks(531, 500, (1, 5), (1, 7)):
            lists = lists_for(network, task)
            told = told_of(network, lists)
            for number in range(len(network.edges())):
                found = self.steady(price_range, network, task, number)
                if told is None:
                    self.assertIsNone(found)
                    continue
                low, high = found
                top = max(known for known in (low, high, network.edges()[number][2]) if known is not None) + 3
                for p in list(range(top + 1)) + [10 * MILLION]:
                    least = min(price_with(network, numbers, number, p) for numbers in lists)
                    good = price_with(network, told, number, p) == least
                    self.assertIs(good, low <= p and (high is None or p <= high), (network.edges(), task, number, p))
                key = (task[0], number in told, high is None, low > 0)
                seen[key] = seen.get(key, 0) + 1
        for kind in KINDS:
            for key in ((True, True, False), (True, False, False), (False, True, True)):
                self.assertGreater(seen[(kind,) + key], 3, (kind, key))

    def test_by_the_words_of_the_point(self):
        for network, task in some_tasks(532, 300, (2, 5), (1, 7)):
            lists = lists_for(network, task)
            told = told_of(network, lists)
            for number, edge in enumerate(network.edges()):
                if told is None:
                    self.assertIsNone(price_range(network, task, number))
                elif number in told:
                    other = least_of(network, [numbers for numbers in lists if number not in numbers])
                    high = None if other is None else edge[2] + other - price_of(network, told)
                    self.assertEqual(price_range(network, task, number), (0, high))
                else:
                    free = least_of(network.with_price(number, 0), lists)
                    self.assertEqual(price_range(network, task, number), (price_of(network, told) - free, None))

    def test_each_kind(self):
        self.assertEqual([price_range(NET, ("path", 0, 2), k) for k in range(4)],
                         [(0, 6), (0, 7), (5, None), (0, None)])
        self.assertEqual([price_range(NET, ("arcs", 0, 2), k) for k in range(4)],
                         [(0, 6), (0, 7), (5, None), (0, None)])
        # The last edge joins the vertex 3 alone: no spanning forest is without it.
        self.assertEqual([price_range(NET, ("forest",), k) for k in range(4)],
                         [(0, 9), (0, 9), (3, None), (0, None)])
        self.assertEqual([price_range(NET, ("arborescence", 0), k) for k in range(4)],
                         [(0, None), (0, 9), (3, None), (0, None)])
        self.assertEqual([price_range(NET, ("steiner", [3, 0]), k) for k in range(4)],
                         [(0, 6), (0, 7), (5, None), (0, None)])

    def test_ranges_beyond_the_greatest_price(self):
        network = Network(3, [(0, 1, 1), (0, 2, MILLION), (2, 1, MILLION)])
        self.assertEqual(price_range(network, ("path", 0, 1), 0), (0, 2 * MILLION))
        self.assertEqual(rival(network, ("path", 0, 1), 0), [1, 2])

    def test_a_path_to_its_start(self):
        self.assertEqual([price_range(NET, ("path", 1, 1), k) for k in range(4)], [(0, None)] * 4)
        self.assertEqual([rival(NET, ("path", 1, 1), k) for k in range(4)], [None] * 4)

    def test_tasks_without_an_answer(self):
        network = Network(4, [(0, 1, 1), (2, 3, 1)])
        for task in (("path", 0, 2), ("arcs", 1, 0), ("arborescence", 0), ("steiner", [1, 0, 2])):
            for number in (0, 1):
                self.assertIsNone(price_range(network, task, number))
                self.assertIsNone(rival(network, task, number))

    def test_great_networks(self):
        network = great_network(533)
        for task in (("path", 0, 39), ("arcs", 0, 39), ("forest",), ("steiner", [0, 9, 20, 30, 39])):
            told = answer(network, task)
            for number in (told or [0])[:2] + [0, 199]:
                found = price_range(network, task, number)
                self.assertEqual(found is None, told is None)
                other = rival(network, task, number)
                self.assertTrue(other is None or serves(network, task, other))


class Rivals(Case):
    def test_by_the_words_of_the_point(self):
        counts = {}
        for network, task in some_tasks(534, 400, (2, 5), (1, 7)):
            lists = lists_for(network, task)
            told = told_of(network, lists)
            for number in range(len(network.edges())):
                expected = None
                if told is not None and number in told:
                    expected = told_of(network, [numbers for numbers in lists if number not in numbers])
                elif told is not None and price_range(network, task, number)[0] > 0:
                    expected = told_of(network.with_price(number, 0), lists)
                found = self.steady(rival, network, task, number)
                self.assertEqual(found, expected)
                if found is not None:
                    self.assertNotEqual(found, told)
                    self.assertTrue(serves(network, task, found))
                    low, high = price_range(network, task, number)
                    p = high if number in told else low
                    self.assertEqual(price_with(network, found, number, p), price_with(network, told, number, p))
                key = (task[0], told is not None and number in told, found is None)
                counts[key] = counts.get(key, 0) + 1
        for kind in KINDS:
            for within in (True, False):
                for none in (True, False):
                    self.assertGreater(counts[(kind, within, none)], 3)

    def test_each_kind(self):
        self.assertEqual([rival(NET, ("path", 0, 2), k) for k in range(4)], [[2], [2], [2], None])
        self.assertEqual([rival(NET, ("forest",), k) for k in range(4)], [[1, 2, 3], [0, 2, 3], [0, 2, 3], None])
        self.assertEqual([rival(NET, ("arborescence", 0), k) for k in range(4)], [None, [0, 2, 3], [0, 2, 3], None])
        self.assertEqual([rival(NET, ("steiner", [0, 3]), k) for k in range(4)], [[2, 3], [2, 3], [2, 3], None])

    def test_where_low_is_0(self):
        # The edge 2 may cost 0, and the answer is still one of the cheapest, though not the told one.
        network = Network(3, [(0, 1, 0), (1, 2, 0), (0, 2, 5)])
        self.assertEqual(price_range(network, ("path", 0, 2), 2), (0, None))
        self.assertIsNone(rival(network, ("path", 0, 2), 2))
        self.assertEqual(answer(network.with_price(2, 0), ("path", 0, 2)), [2])
        # The answer has the edge 0, and its rival costs the same.
        network = Network(2, [(0, 1, 3), (1, 0, 3)])
        self.assertEqual(price_range(network, ("path", 0, 1), 0), (0, 3))
        self.assertEqual(rival(network, ("path", 0, 1), 0), [1])
        self.assertEqual(price_range(network, ("path", 0, 1), 1), (3, None))
        self.assertEqual(rival(network, ("path", 0, 1), 1), [1])

    def test_the_price_of_the_answer_stays_least(self):
        for network, task in some_tasks(535, 100, (2, 5), (1, 7)):
            if answer(network, task) is not None:
                for number in range(len(network.edges())):
                    low, high = price_range(network, task, number)
                    for p in {low, min(MILLION, low if high is None else high)}:
                        changed = network.with_price(number, p)
                        self.assertEqual(price_of(changed, answer(network, task)), least_price(changed, task))


class Errors(Case):
    def test_edges(self):
        for task in (("path", 0, 2), ("arcs", 3, 0), ("forest",), ("arborescence", 3), ("steiner", [0, 1])):
            for number in (-1, 4, -4, 10 ** 20):
                self.fails(BadEdge, number, price_range, NET, task, number)
                self.fails(BadEdge, number, rival, NET, task, number)
        self.fails(BadEdge, 0, price_range, Network(2, []), ("path", 0, 1), 0)
        self.fails(BadEdge, 0, rival, Network(2, []), ("path", 0, 1), 0)


if __name__ == "__main__":
    unittest.main()
