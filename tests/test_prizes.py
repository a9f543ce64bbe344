"""Choices with prizes, told ones and quick ones (points 506, 507 and 509)."""

import random
from fractions import Fraction

from tests.cases import Case
from tests.samples import MILLION, changed_lists, great_network, price_of, reach, small_networks
from tests.test_forests import lists_of, ringed
from tests.test_moats import changed_moats, good_for_prizes
from tests.test_steiner_trees import changed_tables, is_bound
from trunkweb.errors import BadEdge, BadPrize, BadVertex, TooMany
from trunkweb.forests import prizes as choices
from trunkweb.networks.network import Network


def is_choice(network, choice):
    """Whether a list is an ascending list of numbers of edges."""
    return sorted(set(choice)) == choice and set(choice) <= set(range(len(network.edges())))


def cost_of(network, root, prizes, choice):
    """Point 506: the cost of a choice."""
    near = reach(network, root, False, choice)
    return price_of(network, choice) + sum(prize for vertex, prize in enumerate(prizes) if vertex not in near)


def best_of(network, root, prizes):
    """The told choice, by trying all lists."""
    return min(lists_of(network), key=lambda choice: (cost_of(network, root, prizes, choice), len(choice), choice))


def goals_of(root, prizes):
    """The goals, ascending."""
    return [vertex for vertex, prize in enumerate(prizes) if prize > 0 and vertex != root]


def shows_choice(network, root, prizes, choice, table):
    """Point 507: what the check of a choice must tell."""
    goals = goals_of(root, prizes)
    if not is_choice(network, choice) or not is_bound(network, goals, table, False):
        return False
    for group in range(2 ** len(goals)):
        number = table[group][root] if group else 0
        others = sum(prizes[goal] for k, goal in enumerate(goals) if not group >> k & 1)
        if number is not None and number + others < cost_of(network, root, prizes, choice):
            return False
    return True


def is_quick(network, root, prizes, choice, moats):
    """Point 509: whether a choice and moats are a quick choice."""
    if not is_choice(network, choice) or not good_for_prizes(network, root, prizes, moats):
        return False
    n = network.size()
    if n == 1:
        return choice == []
    total = sum(Fraction(*height) for _, height in moats)
    return (n - 1) * cost_of(network, root, prizes, choice) <= (2 * n - 3) * total


def samples(seed, count, sizes=(1, 6), many=(0, 9), prices=(0, 1, 3, 9), prizes=(0, 1, 2, 5, 12)):
    """Triples of a small network, a root and prizes."""
    dice = random.Random(seed)
    for network in small_networks(seed, count, sizes, many, prices):
        yield network, dice.randrange(network.size()), [dice.choice(prizes) for _ in range(network.size())]


class Costs(Case):
    def test_all_lists(self):
        for network, root, prizes in samples(291, 80):
            for choice in lists_of(network):
                told = self.steady(choices.cost, network, root, prizes, choice)
                self.assertEqual(told, cost_of(network, root, prizes, choice))

    def test_lists_that_are_none(self):
        network = Network(3, [(0, 1, 3), (1, 2, 4), (2, 0, 5)])
        for choice, at in (([-1], 0), ([3], 0), ([0, 0], 1), ([1, 0], 1), ([0, 2, 1], 2), ([0, 1, 2, 3], 3),
                           ([0, 5, -1], 1), ([10 ** 20], 0)):
            self.fails(BadEdge, at, choices.cost, network, 0, [1, 1, 1], choice)
        self.fails(BadEdge, 0, choices.cost, Network(1, []), 0, [1], [0])

    def test_the_prize_of_the_root(self):
        network = Network(3, [(0, 1, 3), (1, 2, 4)])
        self.assertEqual(choices.cost(network, 0, [100, 5, 7], []), 12)
        self.assertEqual(choices.cost(network, 1, [100, 5, 7], [1]), 104)


class Told(Case):
    def test_against_all_lists(self):
        left_out = 0
        for network, root, prizes in samples(292, 400):
            best = best_of(network, root, prizes)
            self.assertEqual(self.steady(choices.told_choice, network, root, prizes), best)
            table = self.steady(choices.choice_table, network, root, prizes)
            self.assertTrue(is_bound(network, goals_of(root, prizes), table, False))
            self.assertIs(self.steady(choices.check_choice, network, root, prizes, best, table), True)
            left_out += not set(goals_of(root, prizes)) <= reach(network, root, False, best)
        self.assertGreater(left_out, 100)

    def test_ties(self):
        for network, root, prizes in samples(293, 150, (3, 6), (6, 9), (0, 1), (0, 1, 1, 2)):
            self.assertEqual(choices.told_choice(network, root, prizes), best_of(network, root, prizes))

    def test_seven_goals(self):
        for network, root, prizes in samples(294, 25, (8, 8), (8, 11), (2, 5), (1, 3, 8)):
            self.assertEqual(len(goals_of(root, prizes)), 7)
            best = choices.told_choice(network, root, prizes)
            self.assertEqual(best, best_of(network, root, prizes))
            table = choices.choice_table(network, root, prizes)
            self.assertEqual(len(table), 128)
            self.assertIs(choices.check_choice(network, root, prizes, best, table), True)

    def test_no_goals(self):
        network = Network(3, [(0, 1, 0), (1, 2, 4)])
        for root, prizes in ((0, [9, 0, 0]), (1, [0, 0, 0])):
            self.assertEqual(choices.told_choice(network, root, prizes), [])
            self.assertEqual(choices.choice_table(network, root, prizes), [[]])
            self.assertIs(choices.check_choice(network, root, prizes, [], [[]]), True)
            self.assertIs(choices.check_choice(network, root, prizes, [0], [[]]), True)
            self.assertIs(choices.check_choice(network, root, prizes, [1], [[]]), False)
            self.assertIs(choices.check_choice(network, root, prizes, [], []), False)
            self.assertIs(choices.check_choice(network, root, prizes, [], [[0]]), False)
            self.assertIs(choices.check_choice(network, root, prizes, [], [[], [0, 0, 0]]), False)

    def test_eight_goals(self):
        network = Network(10, [(0, 1, 3)])
        calls = ((choices.told_choice, ()), (choices.choice_table, ()), (choices.check_choice, ([-5], [])))
        for call, given in calls:
            self.fails(TooMany, 8, call, network, 9, [1] * 8 + [0, 5], *given)
            self.fails(TooMany, 9, call, network, 9, [1] * 9 + [0], *given)
            self.fails(TooMany, 9, call, network, 0, [1] * 10, *given)
        self.assertEqual(choices.told_choice(network, 0, [5] * 8 + [0, 0]), [0])
        self.assertEqual(choices.cost(network, 0, [5] * 10, [0]), 43)

    def test_great(self):
        for seed, most in enumerate((0, 1, 40, MILLION)):
            network = ringed(295 + seed, most)
            dice = random.Random(seed)
            prizes = [0] * 40
            for vertex in dice.sample(range(1, 40), 7):
                prizes[vertex] = dice.randint(1, max(1, most))
            choice = choices.told_choice(network, 0, prizes)
            table = choices.choice_table(network, 0, prizes)
            self.assertIs(choices.check_choice(network, 0, prizes, choice, table), True)
            self.assertIs(choices.check_choice(network, 0, prizes, choice + [-1], table), False)


class Checks(Case):
    def test_changed_tables(self):
        counts = [0, 0]
        for network, root, prizes in samples(296, 60, (1, 4), (0, 6)):
            choice = choices.told_choice(network, root, prizes)
            for other in changed_tables(choices.choice_table(network, root, prizes)):
                told = self.steady(choices.check_choice, network, root, prizes, choice, other)
                self.assertIs(told, shows_choice(network, root, prizes, choice, other))
                counts[told] += 1
        self.assertGreater(min(counts), 100)

    def test_changed_lists(self):
        counts = [0, 0]
        for network, root, prizes in samples(297, 80, (1, 5), (0, 7)):
            choice = choices.told_choice(network, root, prizes)
            table = choices.choice_table(network, root, prizes)
            for other in list(changed_lists(choice, len(network.edges()))) + lists_of(network):
                told = choices.check_choice(network, root, prizes, other, table)
                self.assertIs(told, shows_choice(network, root, prizes, other, table))
                counts[told] += 1
        self.assertGreater(min(counts), 100)

    def test_errors(self):
        network = Network(10, [(0, 1, 3), (1, 2, 4)])
        calls = ((choices.cost, ([-1],)), (choices.told_choice, ()), (choices.choice_table, ()),
                 (choices.check_choice, ([-1], [])), (choices.quick_choice, ()),
                 (choices.check_quick_choice, ([-1], [([], (0, 0))])))
        for call, given in calls:
            for root in (-1, 10, 10 ** 20):
                self.fails(BadVertex, root, call, network, root, [-1] * 3, *given)
            for many in (0, 9, 11):
                self.fails(BadPrize, many, call, network, 9, [-1] * many, *given)
            for prizes, at in (([-1] + [1] * 9, 0), ([1] * 9 + [MILLION + 1], 9), ([1] * 5 + [-1, -1] + [1] * 3, 5),
                               ([0] * 3 + [10 ** 20] + [-1] * 6, 3)):
                self.fails(BadPrize, at, call, network, 9, prizes, *given)


class Quick(Case):
    def quick(self, network, root, prizes):
        """Test all that is promised of what is told; return it."""
        told = self.steady(choices.quick_choice, network, root, prizes)
        self.assertIs(type(told), tuple)
        self.assertTrue(is_quick(network, root, prizes, *told))
        self.assertIs(self.steady(choices.check_quick_choice, network, root, prizes, *told), True)
        return told

    def test_small(self):
        for network, root, prizes in samples(301, 1000, (1, 7), (0, 12), (0, 1, 3, 9, 100), (0, 1, 2, 5, 12, 50)):
            self.quick(network, root, prizes)

    def test_held_against_the_least_cost(self):
        for network, root, prizes in samples(302, 300, (2, 7), (2, 12)):
            choice, moats = self.quick(network, root, prizes)
            least = cost_of(network, root, prizes, choices.told_choice(network, root, prizes))
            n = network.size()
            self.assertLessEqual((n - 1) * cost_of(network, root, prizes, choice), (2 * n - 3) * least)
            self.assertLessEqual(sum(Fraction(*height) for _, height in moats), least)

    def test_ties_and_prices_of_0(self):
        for prices in ((0,), (1,), (0, 1), (2,)):
            for network, root, prizes in samples(303, 80, (3, 9), (6, 25), prices, (0, 1, 1)):
                self.quick(network, root, prizes)

    def test_one_vertex(self):
        for prize in (0, 5, MILLION):
            self.assertEqual(self.quick(Network(1, []), 0, [prize]), ([], []))
        self.assertIs(choices.check_quick_choice(Network(1, []), 0, [1], [0], []), False)
        self.assertIs(choices.check_quick_choice(Network(1, []), 0, [1], [], [([0], (1, 1))]), False)

    def test_great(self):
        for seed, most in enumerate((0, 1, 40, MILLION)):
            for network in (ringed(304 + seed, most), great_network(seed, most=most)):
                dice = random.Random(seed)
                for top in (1, 30, MILLION):
                    self.quick(network, dice.randrange(40), [dice.randint(0, top) for _ in range(40)])

    def test_parts_that_hang_on_one_edge(self):
        # The way to the vertex 2 is paid from both sides, but its prize alone does not pay its edge.
        network = Network(4, [(0, 1, 4), (1, 2, 9), (1, 3, 2)])
        choice, _ = self.quick(network, 0, [0, 100, 1, 0])
        self.assertEqual(choice, [0])

    def test_each_condition(self):
        network = Network(3, [(0, 1, 4), (1, 2, 4)])
        prizes = [0, 4, 4]
        moats = [([1], (4, 1)), ([2], (4, 1))]
        self.assertIs(choices.check_quick_choice(network, 0, prizes, [0, 1], moats), False)
        moats = [([1], (2, 1)), ([2], (2, 1)), ([1, 2], (2, 1))]
        # 2 times 8 is less than 3 times 6.
        for choice in ([0, 1], [0], []):
            self.assertIs(choices.check_quick_choice(network, 0, prizes, choice, moats), True)
        for choice in ([1], [1, 0], [0, 0], [0, 1, 2], [-1, 0]):
            self.assertIs(choices.check_quick_choice(network, 0, prizes, choice, moats), False)
        for other in (moats[:2], moats[1:], moats + [([1], (1, 1))], moats + [([0], (1, 1))],
                      [([1], (2, 1)), ([2], (2, 1)), ([1, 2], (3, 1))]):
            self.assertIs(choices.check_quick_choice(network, 0, prizes, [0, 1], other), False)

    def test_the_factor_at_the_border(self):
        network = Network(3, [(0, 1, 3), (0, 2, 3)])
        prizes = [0, 9, 9]
        # 2 times 6 is 3 times 4.
        self.assertIs(choices.check_quick_choice(network, 0, prizes, [0, 1], [([1], (3, 1)), ([2], (1, 1))]), True)
        self.assertIs(choices.check_quick_choice(network, 0, prizes, [0, 1], [([1], (3, 1)), ([2], (9, 10))]), False)

    def test_changed(self):
        counts = [0, 0]
        for network, root, prizes in samples(305, 80, (1, 5), (0, 7)):
            choice, moats = choices.quick_choice(network, root, prizes)
            for other in list(changed_lists(choice, len(network.edges()))) + lists_of(network):
                told = choices.check_quick_choice(network, root, prizes, other, moats)
                self.assertIs(told, is_quick(network, root, prizes, other, moats))
                counts[told] += 1
            for other in changed_moats(network, moats):
                told = self.steady(choices.check_quick_choice, network, root, prizes, choice, other)
                self.assertIs(told, is_quick(network, root, prizes, choice, other))
                counts[told] += 1
        self.assertGreater(min(counts), 300)
