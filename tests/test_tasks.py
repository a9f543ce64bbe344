"""Tasks, their answers, and what serves them (point 1001)."""

import random
import unittest

from tests.cases import Case
from tests.samples import changed_lists, great_network, price_of
from tests.tasks import KINDS, ends_at, least_of, lists_for, random_task, serves as serves_it, some_tasks, told_of
from trunkweb.networks.network import Network
from trunkweb.prices.tasks import answer, least_price, serves

SQUARE = Network(4, [(0, 1, 1), (1, 2, 1), (2, 3, 1), (3, 0, 1)])


class Answers(Case):
    def test_against_all_lists(self):
        counts = {}
        for network, task in some_tasks(521, 600):
            lists = lists_for(network, task)
            told = self.steady(answer, network, task)
            self.assertEqual(told, told_of(network, lists))
            self.assertEqual(self.steady(least_price, network, task), least_of(network, lists))
            if told is not None:
                self.assertIs(serves(network, task, told), True)
            key = (task[0], told is None)
            counts[key] = counts.get(key, 0) + 1
        for kind in KINDS:
            self.assertGreater(counts[(kind, False)], 20)
            if kind != "forest":
                self.assertGreater(counts[(kind, True)], 10)

    def test_each_kind(self):
        self.assertEqual(answer(SQUARE, ("path", 0, 3)), [3])
        self.assertEqual(answer(SQUARE, ("arcs", 0, 3)), [0, 1, 2])
        self.assertEqual(answer(SQUARE, ("path", 0, 2)), [0, 1])
        self.assertEqual(answer(SQUARE, ("path", 2, 2)), [])
        self.assertEqual(answer(SQUARE, ("forest",)), [0, 1, 2])
        self.assertEqual(answer(SQUARE, ("arborescence", 2)), [0, 2, 3])
        self.assertEqual(answer(SQUARE, ("steiner", [3, 1])), [0, 3])
        self.assertEqual(answer(SQUARE, ("steiner", [2])), [])
        self.assertEqual([least_price(SQUARE, task) for task in (("path", 0, 3), ("arcs", 0, 3), ("forest",))],
                         [1, 3, 3])

    def test_no_answer(self):
        network = Network(3, [(0, 1, 4)])
        for task in (("path", 0, 2), ("arcs", 1, 0), ("arborescence", 0), ("steiner", [0, 2])):
            self.assertIsNone(answer(network, task))
            self.assertIsNone(least_price(network, task))
        self.assertEqual(least_price(network, ("forest",)), 4)
        self.assertEqual(answer(Network(3, []), ("forest",)), [])

    def test_great_networks(self):
        network = great_network(522)
        dice = random.Random(523)
        for kind in KINDS:
            task = random_task(dice, network, kind, 5)
            told = answer(network, task)
            if told is not None:
                self.assertTrue(serves(network, task, told))
                self.assertEqual(least_price(network, task), price_of(network, told))


class Serving(Case):
    def test_all_lists(self):
        for network, task in some_tasks(524, 60, (1, 4), (0, 5)):
            for numbers in lists_for(network, task):
                self.assertIs(serves(network, task, numbers), True)

    def test_changed_lists(self):
        counts = {}
        for network, task in some_tasks(525, 300, (2, 5), (1, 7)):
            many = len(network.edges())
            told = answer(network, task) or []
            for numbers in list(changed_lists(told, many)) + [told, [], list(range(many)), list(range(many))[::-1]]:
                good = self.steady(serves, network, task, numbers)
                self.assertIs(good, serves_it(network, task, numbers))
                key = (task[0], good)
                counts[key] = counts.get(key, 0) + 1
        for kind in KINDS:
            self.assertGreater(min(counts[(kind, True)], counts[(kind, False)]), 30)

    def test_paths_that_come_to_a_vertex_twice(self):
        self.assertIs(serves(SQUARE, ("path", 0, 1), [0, 0, 0]), True)
        self.assertIs(serves(SQUARE, ("path", 0, 1), [3, 2, 1]), True)
        self.assertIs(serves(SQUARE, ("path", 0, 0), [0, 1, 2, 3]), True)
        self.assertIs(serves(SQUARE, ("path", 0, 0), []), True)
        self.assertIs(serves(SQUARE, ("arcs", 0, 1), [0, 1, 2, 3, 0]), True)
        self.assertIs(serves(SQUARE, ("arcs", 0, 1), [0, 0, 0]), False)
        self.assertIs(serves(SQUARE, ("arcs", 0, 3), [3]), False)
        self.assertIs(serves(SQUARE, ("path", 0, 1), [0, 0]), False)
        self.assertEqual(ends_at(SQUARE, ("path", 0, 1), [0, 0]), 0)

    def test_numbers_of_no_edges(self):
        for task in (("path", 0, 1), ("arcs", 0, 1), ("forest",), ("arborescence", 0), ("steiner", [0, 1])):
            for number in (-1, 4, 10 ** 20, -4):
                self.assertIs(serves(SQUARE, task, [number]), False)
                self.assertIs(serves(SQUARE, task, [0, number]), False)
                self.assertIs(serves(SQUARE, task, [0, 1, 2, number]), False)

    def test_lists_that_do_not_ascend(self):
        self.assertIs(serves(SQUARE, ("forest",), [0, 1, 2]), True)
        self.assertIs(serves(SQUARE, ("arborescence", 0), [0, 1, 2]), True)
        self.assertIs(serves(SQUARE, ("steiner", [0, 3]), [0, 1, 2]), True)
        for numbers in ([0, 2, 1], [2, 1, 0], [0, 0, 1, 2], [0, 1, 2, 2]):
            for task in (("forest",), ("arborescence", 0), ("steiner", [0, 3])):
                self.assertIs(serves(SQUARE, task, numbers), False)

    def test_each_kind(self):
        self.assertIs(serves(SQUARE, ("forest",), [0, 1, 2, 3]), False)
        self.assertIs(serves(SQUARE, ("forest",), [0, 1]), False)
        self.assertIs(serves(SQUARE, ("arborescence", 0), [0, 1, 3]), False)
        self.assertIs(serves(SQUARE, ("arborescence", 0), [0, 1, 2, 3]), False)
        # A Steiner tree may have edges that are not needed, a cycle, too.
        self.assertIs(serves(SQUARE, ("steiner", [0, 3]), [0, 3]), True)
        self.assertIs(serves(SQUARE, ("steiner", [0, 3]), [0, 1, 2, 3]), True)
        self.assertIs(serves(SQUARE, ("steiner", [0, 3]), [0, 1]), False)
        self.assertIs(serves(SQUARE, ("steiner", [2]), [0]), True)


if __name__ == "__main__":
    unittest.main()
