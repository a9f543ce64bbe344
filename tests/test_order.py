"""Orders, what openings cost, and where clients go (points 801 and 802)."""

import random
import unittest

from tests.cases import Case
from tests.places import random_orders
from tests.programs import MILLION
from tests.samples import changed_lists
from trunkweb.errors import BadPrice, BadSet, BadVertex, NoPath, OutOfRange, TooMany
from trunkweb.networks.network import Network
from trunkweb.places.order import Order

LINE = Network(4, [(0, 1, 1), (1, 2, 2), (2, 3, 4)])
PARTS = Network(4, [(0, 1, 1), (2, 3, 4)])


class Orders(Case):
    def test_against_the_points(self):
        for told in random_orders(421, 200):
            self.assertEqual(self.steady(told.order.openings), told.openings)
            self.assertEqual(self.steady(told.order.ways), told.ways)
            for numbers in told.sets():
                self.assertEqual(self.steady(told.order.cost, numbers), told.cost(numbers))
                goes = [min((row[number], number) for number in numbers)[1] for row in told.ways]
                self.assertEqual(self.steady(told.order.goes, numbers), goes)

    def test_a_line(self):
        order = Order(LINE, [(0, 5), (3, 1), (2, 0)], [1, 3])
        self.assertEqual(order.openings(), [5, 1, 0])
        self.assertEqual(order.ways(), [[1, 6, 2], [7, 0, 4]])
        self.assertEqual([order.cost(numbers) for numbers in ([0], [1], [2], [0, 1], [1, 2], [0, 1, 2])],
                         [13, 7, 6, 7, 3, 7])
        self.assertEqual(order.goes([0, 1, 2]), [0, 1])
        self.assertEqual(order.goes([1, 2]), [2, 1])

    def test_ties(self):
        order = Order(LINE, [(2, 1), (2, 1), (0, 1), (2, 0)], [2, 2, 0, 1])
        self.assertEqual(order.goes([0, 1, 3]), [0, 0, 0, 0])
        self.assertEqual(order.goes([1, 3]), [1, 1, 1, 1])
        self.assertEqual(order.goes([2, 3]), [3, 3, 2, 2])

    def test_sites_and_clients_at_one_vertex(self):
        order = Order(Network(1, []), [(0, 3), (0, 2), (0, 3)], [0] * 4)
        self.assertEqual(order.ways(), [[0, 0, 0]] * 4)
        self.assertEqual(order.cost([1]), 2)
        self.assertEqual(order.cost([0, 2]), 6)
        self.assertEqual(order.goes([1, 2]), [1] * 4)

    def test_no_clients(self):
        order = Order(LINE, [(0, 5), (3, 1)], [])
        self.assertEqual((order.ways(), order.goes([0, 1]), order.cost([0, 1])), ([], [], 6))
        # Without clients no way is missing.
        self.assertEqual(Order(PARTS, [(0, 5), (3, 1)], []).cost([1]), 1)

    def test_what_is_handed_in_may_be_changed(self):
        sites, clients = [(0, 5), (3, 1)], [1, 3]
        order = Order(LINE, sites, clients)
        sites.pop()
        sites[0] = (2, 0)
        clients.append(0)
        clients[0] = 2
        self.assertEqual((order.openings(), order.ways()), ([5, 1], [[1, 6], [7, 0]]))

    def test_greatest_orders(self):
        order = Order(LINE, [(k % 4, MILLION) for k in range(10)], [k % 4 for k in range(20)])
        self.assertEqual(order.cost(list(range(10))), 10 * MILLION)


class Errors(Case):
    def test_numbers(self):
        for many in (0, 11, 30):
            self.fails(OutOfRange, many, Order, LINE, [(9, -1)] * many, [9] * 21)
        for many in (21, 40):
            self.fails(TooMany, many, Order, LINE, [(9, -1)], [9] * many)

    def test_places(self):
        for vertex in (-1, 4, 10 ** 20):
            self.fails(BadVertex, 1, Order, LINE, [(0, -1), (vertex, 0), (9, 0)], [9])
            self.fails(BadVertex, 1, Order, LINE, [(0, 1), (3, 0)], [0, vertex, 9])
        # All vertices of sites come ahead of the opening prices, and these ahead of the clients.
        for price in (-1, MILLION + 1):
            self.fails(BadVertex, 2, Order, LINE, [(0, price), (1, price), (4, 0)], [9])
            self.fails(BadPrice, 1, Order, LINE, [(0, 0), (1, price), (2, price)], [9])
            self.fails(BadPrice, 0, Order, PARTS, [(0, price), (2, 0)], [1])
        self.fails(BadVertex, 1, Order, PARTS, [(0, 1), (2, 1)], [0, 4])

    def test_no_path(self):
        self.fails(NoPath, 0, Order, PARTS, [(0, 1), (2, 1)], [0, 1])
        self.fails(NoPath, 2, Order, PARTS, [(0, 1), (1, 1)], [0, 1, 2, 3])
        self.fails(NoPath, 1, Order, PARTS, [(3, 1), (2, 1), (3, 1)], [2, 1])
        self.fails(NoPath, 0, Order, PARTS, [(0, 0), (1, 0), (3, 0)], [1])

    def test_sets(self):
        order = Order(LINE, [(0, 5), (3, 1), (2, 0)], [1, 3])
        bad = [[], [1, 0], [0, 0], [-1], [3], [0, 3], [-1, 0], [0, 2, 1], [0, 1, 2, 3]]
        for numbers in bad + [some for some in changed_lists([0, 2], 3) if some not in ([0], [1, 2], [2], [0, 1])]:
            if numbers not in ([0, 1, 2],):
                self.fails(BadSet, 0, order.cost, numbers)
                self.fails(BadSet, 0, order.goes, numbers)
        none = Order(LINE, [(0, 5)], [])
        self.fails(BadSet, 0, none.cost, [])
        self.fails(BadSet, 0, none.goes, [1])

    def test_random_lists(self):
        dice = random.Random(422)
        for told in random_orders(423, 60):
            good = told.sets()
            for _ in range(20):
                numbers = [dice.randint(-1, len(told.openings)) for _ in range(dice.randint(0, 4))]
                if numbers not in good:
                    self.fails(BadSet, 0, told.order.cost, numbers)
                    self.fails(BadSet, 0, told.order.goes, numbers)


if __name__ == "__main__":
    unittest.main()
