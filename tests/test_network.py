"""Networks (points 2, 4 and 101)."""

from tests.cases import Case
from tests.samples import MILLION, great_network, small_networks
from trunkweb.errors import BadEdge, BadPrice, BadVertex, OutOfRange, TooMany
from trunkweb.networks.network import Network

EDGES = [(0, 1, 5), (2, 1, 0), (1, 0, 7), (0, 1, 5), (3, 2, MILLION)]


class Making(Case):
    def test_sizes(self):
        for size in (1, 2, 39, 40):
            self.assertEqual(Network(size, []).size(), size)
        for size in (0, 41, 42, -1, -40, 2 ** 70, -(2 ** 70)):
            self.fails(OutOfRange, size, Network, size, [])

    def test_numbers_of_edges(self):
        self.assertEqual(Network(2, []).edges(), [])
        self.assertEqual(len(Network(2, [(0, 1, 1)] * 200).edges()), 200)
        self.fails(TooMany, 201, Network, 2, [(0, 1, 1)] * 201)
        self.fails(TooMany, 300, Network, 2, [(0, 1, 1)] * 300)

    def test_edges_are_kept_in_their_order(self):
        self.assertEqual(Network(4, EDGES).edges(), EDGES)
        self.assertTrue(all(type(edge) is tuple for edge in Network(4, EDGES).edges()))

    def test_ends(self):
        for u, v in ((0, 3), (3, 0), (-1, 0), (0, -1), (-3, -2), (1, 1), (5, 5), (2 ** 40, 0)):
            self.fails(BadVertex, 0, Network, 3, [(u, v, 1)])
            self.fails(BadVertex, 2, Network, 3, [(0, 1, 1), (1, 2, 1), (u, v, 1), (9, 9, 9)])
        self.fails(BadVertex, 0, Network, 1, [(0, 0, 1)])
        self.fails(BadVertex, 0, Network, 1, [(0, 1, 1)])

    def test_prices(self):
        for price in (0, 1, MILLION - 1, MILLION):
            self.assertEqual(Network(2, [(0, 1, price)]).edges(), [(0, 1, price)])
        for price in (MILLION + 1, -1, -MILLION, 2 ** 80):
            self.fails(BadPrice, 0, Network, 2, [(0, 1, price)])
            self.fails(BadPrice, 1, Network, 2, [(0, 1, 0), (1, 0, price)])

    def test_several_faults_come_in_the_told_order(self):
        many = [(0, 9, -1)] * 201
        self.fails(OutOfRange, 0, Network, 0, many)
        self.fails(TooMany, 201, Network, 2, many)
        self.fails(BadVertex, 0, Network, 2, many[:200])
        self.fails(BadVertex, 1, Network, 2, [(0, 1, 1), (0, 0, -1), (0, 1, -1)])
        self.fails(BadPrice, 1, Network, 2, [(0, 1, 1), (0, 1, -1), (0, 0, 1)])
        self.fails(BadVertex, 0, Network, 2, [(0, 0, 1), (0, 1, -1)])


class Telling(Case):
    def test_edges_around(self):
        network = Network(5, EDGES)
        self.assertEqual([network.around(v) for v in range(5)], [[0, 2, 3], [0, 1, 2, 3], [1, 4], [4], []])
        self.assertEqual([network.leaving(v) for v in range(5)], [[0, 3], [2], [1], [4], []])
        self.assertEqual([network.entering(v) for v in range(5)], [[2], [0, 1, 3], [4], [], []])

    def test_small_networks(self):
        for network in small_networks(1, 60):
            edges = network.edges()
            for v in range(network.size()):
                self.assertEqual(network.leaving(v), [k for k, e in enumerate(edges) if e[0] == v])
                self.assertEqual(network.entering(v), [k for k, e in enumerate(edges) if e[1] == v])
                self.assertEqual(network.around(v), sorted(network.leaving(v) + network.entering(v)))
                for k in network.around(v):
                    self.assertEqual({v, network.other_end(k, v)}, set(edges[k][:2]))
                    self.assertNotEqual(network.other_end(k, v), v)

    def test_no_vertex(self):
        network = Network(4, EDGES)
        for call in (network.around, network.leaving, network.entering):
            for vertex in (4, -1, -4, 40, 2 ** 50):
                self.fails(BadVertex, vertex, call, vertex)

    def test_other_end(self):
        network = Network(4, EDGES)
        self.assertEqual(network.other_end(0, 0), 1)
        self.assertEqual(network.other_end(0, 1), 0)
        self.assertEqual(network.other_end(4, 2), 3)
        self.assertEqual(network.other_end(4, 3), 2)

    def test_with_price(self):
        network = Network(4, EDGES)
        for price in (0, 3, MILLION):
            other = network.with_price(1, price)
            self.assertIsInstance(other, Network)
            self.assertEqual(other.size(), 4)
            self.assertEqual(other.edges(), EDGES[:1] + [(2, 1, price)] + EDGES[2:])
            self.assertEqual(network.edges(), EDGES)
            self.assertEqual(other.with_price(1, 0).edges(), EDGES)

    def test_with_price_errors(self):
        network = Network(4, EDGES)
        for number in (5, 6, -1, -5, 2 ** 40):
            self.fails(BadEdge, number, network.with_price, number, 1)
            self.fails(BadEdge, number, network.with_price, number, -1)
        for price in (-1, MILLION + 1):
            self.fails(BadPrice, 0, network.with_price, 0, price)
            self.fails(BadPrice, 4, network.with_price, 4, price)
        self.fails(BadEdge, 0, Network(1, []).with_price, 0, 0)
        self.assertEqual(network.edges(), EDGES)


class Copies(Case):
    def test_the_list_that_is_handed_in(self):
        edges = list(EDGES)
        network = Network(4, edges)
        self.assertEqual(edges, EDGES)
        edges[0] = (2, 3, 4)
        edges.append((0, 0, 0))
        self.assertEqual(network.edges(), EDGES)

    def test_the_lists_that_are_told(self):
        network = Network(4, EDGES)
        self.assertEqual(self.steady(network.edges), EDGES)
        for call in (network.around, network.leaving, network.entering):
            for vertex in range(4):
                self.steady(call, vertex)
        other = network.with_price(0, 9)
        other.edges().clear()
        self.assertEqual(len(other.edges()), 5)

    def test_great(self):
        network = great_network(2)
        self.assertEqual(sum(len(network.around(v)) for v in range(40)), 400)
        self.assertEqual(sum(len(network.leaving(v)) for v in range(40)), 200)
