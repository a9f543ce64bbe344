"""Arborescences and their packings (points 304 and 305)."""

from tests.cases import Case
from tests.samples import MILLION, changed_lists, first_of, great_network, price_of, reach, small_networks, sublists
from trunkweb.errors import BadVertex
from trunkweb.networks.network import Network
from trunkweb.trees.arborescences import check_arborescence, cut_off, packing, told_arborescence


def is_arborescence(network, root, numbers):
    """Point 304, word by word."""
    ends = [network.edges()[number][1] for number in numbers]
    if sorted(ends) != [v for v in range(network.size()) if v != root]:
        return False
    return len(reach(network, root, True, numbers)) == network.size()


def all_arborescences(network, root):
    """All of them, by trying all sets of arcs."""
    lists = sublists(range(len(network.edges())))
    return [numbers for numbers in lists if is_arborescence(network, root, numbers)]


def is_fair(network, root, pairs):
    """Point 305, word by word."""
    for vertices, value in pairs:
        if not vertices or sorted(set(vertices)) != vertices or root in vertices or value < 0:
            return False
        if vertices[0] < 0 or vertices[-1] >= network.size():
            return False
    for u, v, price in network.edges():
        if sum(value for vertices, value in pairs if v in vertices and u not in vertices) > price:
            return False
    return True


class Whole(Case):
    def look_at(self, network, root):
        """Test the packing, and that the told arborescence has its sum; return both."""
        told = told_arborescence(network, root)
        pairs = packing(network, root)
        self.assertTrue(is_arborescence(network, root, told))
        self.assertTrue(is_fair(network, root, pairs))
        self.assertTrue(all(type(pair) is tuple for pair in pairs))
        self.assertEqual(sum(value for _, value in pairs), price_of(network, told))
        self.assertIs(self.steady(check_arborescence, network, root, told, pairs), True)
        for one, _ in pairs:
            for two, _ in pairs:
                both = set(one) & set(two)
                self.assertTrue(not both or both in (set(one), set(two)))
        return told, pairs

    def test_small_networks(self):
        found = 0
        for network in small_networks(101, 250, (1, 5), (0, 10)):
            for root in range(min(2, network.size())):
                best = first_of(network, all_arborescences(network, root))
                self.assertEqual(self.steady(told_arborescence, network, root), best)
                missed = sorted(set(range(network.size())) - reach(network, root, True))
                self.assertEqual(self.steady(cut_off, network, root), missed)
                self.steady(packing, network, root)
                if best is None:
                    self.assertTrue(missed)
                    self.assertIsNone(packing(network, root))
                else:
                    found += 1
                    self.assertEqual(missed, [])
                    self.look_at(network, root)
        self.assertGreater(found, 60)

    def test_denser_networks(self):
        for network in small_networks(102, 40, (4, 5), (10, 12), (0, 1, 2, 4)):
            best = first_of(network, all_arborescences(network, 0))
            if best is not None:
                self.assertEqual(self.look_at(network, 0)[0], best)

    def test_great_networks(self):
        found = 0
        for seed in range(12):
            network = great_network(103 + seed, most=(0, 1, 9, 1000, MILLION, MILLION)[seed % 6])
            ring = [(v, (v + 1) % 40, MILLION) for v in range(40)]
            network = Network(40, network.edges()[:160] + ring)
            told, pairs = self.look_at(network, seed)
            self.assertEqual(cut_off(network, seed), [])
            found += 1
            for number in told[:3]:
                if network.edges()[number][2]:
                    less = network.with_price(number, 0)
                    self.assertFalse(check_arborescence(less, seed, told, pairs))
        self.assertEqual(found, 12)

    def test_a_long_line_of_nested_sets(self):
        arcs = [(v, v + 1, 5) for v in range(39)] + [(v + 1, v, 0) for v in range(39)]
        network = Network(40, arcs)
        self.assertEqual(self.look_at(network, 0)[0], list(range(39)))
        self.assertEqual(self.look_at(network, 39)[0], list(range(39, 78)))
        self.assertEqual(self.look_at(network, 20)[0], list(range(20, 39)) + list(range(39, 59)))


class Edges(Case):
    def test_one_vertex(self):
        network = Network(1, [])
        self.assertEqual((told_arborescence(network, 0), packing(network, 0), cut_off(network, 0)), ([], [], []))
        self.assertTrue(check_arborescence(network, 0, [], []))
        self.assertFalse(check_arborescence(network, 0, [], [([0], 0)]))
        self.assertFalse(check_arborescence(network, 0, [0], []))

    def test_none(self):
        network = Network(4, [(0, 1, 2), (2, 3, 1), (3, 2, 1), (2, 0, 4)])
        self.assertEqual(cut_off(network, 0), [2, 3])
        self.assertIsNone(told_arborescence(network, 0))
        self.assertIsNone(packing(network, 0))
        self.assertEqual(told_arborescence(network, 2), [0, 1, 3])
        self.assertEqual(cut_off(network, 1), [0, 2, 3])

    def test_the_first_of_several(self):
        network = Network(3, [(1, 2, 3), (0, 2, 2), (2, 1, 2), (0, 1, 1), (0, 1, 1), (0, 2, 2)])
        self.assertEqual(told_arborescence(network, 0), [1, 3])
        tied = Network(3, [(2, 1, 1), (0, 2, 2), (1, 2, 1), (0, 1, 2)])
        self.assertEqual(told_arborescence(tied, 0), [0, 1])

    def test_errors(self):
        network = Network(3, [(0, 1, 4)])
        for bad in (3, -1, -3, 2 ** 40):
            self.fails(BadVertex, bad, told_arborescence, network, bad)
            self.fails(BadVertex, bad, cut_off, network, bad)
            self.fails(BadVertex, bad, packing, network, bad)
            self.fails(BadVertex, bad, check_arborescence, network, bad, [-1], [([], -1)])


class Checks(Case):
    def holds(self, network, root, numbers, pairs):
        """What the check must tell."""
        many = len(network.edges())
        if sorted(set(numbers)) != numbers or not set(numbers) <= set(range(many)):
            return False
        if not is_arborescence(network, root, numbers) or not is_fair(network, root, pairs):
            return False
        return price_of(network, numbers) == sum(value for _, value in pairs)

    def test_changed_lists_and_pairs(self):
        for network in small_networks(115, 120, (2, 5), (3, 10)):
            size = network.size()
            told = told_arborescence(network, 0)
            if told is None:
                continue
            pairs = packing(network, 0)
            lists = list(changed_lists(told, len(network.edges()))) + all_arborescences(network, 0)
            for numbers in lists + [[], told[::-1], told + told]:
                self.assertIs(check_arborescence(network, 0, numbers, pairs),
                              self.holds(network, 0, numbers, pairs))
            changed = [pairs + [other] for other in (
                ([1], 0), ([1], -1), ([1], 1), ([], 0), ([], 1), ([0], 0), ([0, 1], 0), ([size], 0), ([-1], 0),
                ([1, 1], 0), (list(range(1, size)), 0), (list(range(1, size))[::-1], 0), (list(range(size)), 0))]
            changed += [[], pairs[1:], pairs[::-1], pairs + pairs]
            for k, (vertices, value) in enumerate(pairs):
                others = [(vertices, value + d) for d in (-1, 1)] + [(vertices, 0), (vertices, -value)]
                others += [(other, value) for other in changed_lists(vertices, size)]
                changed += [pairs[:k] + [other] + pairs[k + 1:] for other in others]
                changed.append(pairs[:k] + [(vertices, value - 1), (vertices, 1)] + pairs[k + 1:])
            for other in changed:
                self.assertIs(self.steady(check_arborescence, network, 0, told, other),
                              self.holds(network, 0, told, other))

    def test_a_pair_below_zero_beside_a_greater_one(self):
        network = Network(2, [(0, 1, 3)])
        self.assertTrue(check_arborescence(network, 0, [0], [([1], 3)]))
        self.assertTrue(check_arborescence(network, 0, [0], [([1], 3), ([1], 0)]))
        self.assertFalse(check_arborescence(network, 0, [0], [([1], 4), ([1], -1)]))
        self.assertFalse(check_arborescence(network, 0, [0], [([1], 2)]))
        self.assertFalse(check_arborescence(network, 0, [0], [([], 1), ([1], 2)]))
        self.assertFalse(check_arborescence(network, 0, [0], [([0, 1], 1), ([1], 2)]))
