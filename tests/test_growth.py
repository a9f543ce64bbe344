"""Fair duals, and growing (points 803 and 804)."""

import random
import unittest
from fractions import Fraction

from tests.cases import Case
from tests.places import changed_duals, great_order, is_fair as is_fair_in, over, random_orders
from tests.programs import MILLION, pair, pairs
from trunkweb.networks.network import Network
from trunkweb.places.growth import dual_sum, grow, is_fair
from trunkweb.places.order import Order

LINE = Network(5, [(0, 1, 2), (1, 2, 4), (2, 3, 6), (3, 4, 1)])


def paid_at(told, site, stopped, now):
    """The first moment from now on at which a site is paid, if those that have not stopped grow on; or None."""
    def spent(moment):
        return sum(over(stopped.get(j, moment), row[site]) for j, row in enumerate(told.ways))

    growing = [j for j in range(len(told.ways)) if j not in stopped]
    marks = sorted({now} | {Fraction(told.ways[j][site]) for j in growing if told.ways[j][site] > now})
    if spent(now) == told.openings[site]:
        return now
    for one, two in zip(marks, marks[1:]):
        if spent(two) >= told.openings[site]:
            return one + (two - one) * (told.openings[site] - spent(one)) / (spent(two) - spent(one))
    # Behind the last mark all that grow count.
    return marks[-1] + (told.openings[site] - spent(marks[-1])) / len(growing) if growing else None


def grown(told):
    """Point 804, word by word: the taken sites and the dual."""
    stopped, paid, now = {}, {}, Fraction(0)
    clients = range(len(told.ways))
    while len(stopped) < len(told.ways):
        moments = {site: paid_at(told, site, stopped, now) for site in range(len(told.openings)) if site not in paid}
        arrivals = [told.ways[j][site] for j in clients if j not in stopped for site in paid]
        now = min([moment for moment in moments.values() if moment is not None] + [Fraction(way) for way in arrivals])
        paid.update({site: now for site, moment in moments.items() if moment == now})
        for j in clients:
            if j not in stopped and any(told.ways[j][site] <= now for site in paid):
                stopped[j] = now
    taken = []
    for site in sorted(paid, key=lambda known: (paid[known], known)):
        if not any(stopped[j] > told.ways[j][site] and stopped[j] > told.ways[j][other]
                   for j in clients for other in taken):
            taken.append(site)
    return sorted(taken), [pair(stopped[j]) for j in clients]


class Growing(Case):
    def judge(self, told):
        """Test what is told of an order with clients."""
        taken, dual = self.steady(grow, told.order)
        self.assertEqual((taken, dual), grown(told))
        self.assertTrue(is_fair(told.order, dual))
        self.assertTrue(is_fair_in(told, told.openings, {}, dual))
        total = sum(Fraction(*amount) for amount in dual)
        self.assertEqual(dual_sum(dual), pair(total))
        self.assertLessEqual(3 * sum(told.openings[site] for site in taken) + told.ways_to(taken), 3 * total)
        return taken, dual

    def test_against_the_point(self):
        whole = 0
        for told in random_orders(431, 500, clients=(1, 6)):
            taken, dual = self.judge(told)
            least = min(told.cost(numbers) for numbers in told.sets())
            self.assertLessEqual(Fraction(*dual_sum(dual)), least)
            self.assertLessEqual(told.order.cost(taken), 3 * least)
            whole += all(amount[1] == 1 for amount in dual)
        self.assertTrue(50 < whole < 450)

    def test_more_sites_and_clients(self):
        for told in random_orders(432, 60, size=(5, 12), sites=(5, 10), clients=(8, 20)):
            self.judge(told)

    def test_one_client(self):
        order = Order(LINE, [(0, 3), (2, 1)], [1])
        # Site 1 is paid at 4 + 1, site 0 at 2 + 3.
        self.assertEqual(grow(order), ([0], [(5, 1)]))
        order = Order(LINE, [(0, 4), (2, 1)], [1])
        self.assertEqual(grow(order), ([1], [(5, 1)]))

    def test_sites_that_are_paid_at_once(self):
        # Both are paid at 3 by clients of their own: both are taken.
        order = Order(LINE, [(4, 3), (0, 3)], [0, 4])
        self.assertEqual(grow(order), ([0, 1], [(3, 1), (3, 1)]))
        # Both are paid at 5, by the same client: the first one is taken.
        order = Order(LINE, [(2, 1), (0, 3)], [1])
        self.assertEqual(grow(order), ([0], [(5, 1)]))
        # A client that only comes to a way does not exceed it.
        order = Order(LINE, [(0, 2), (2, 0)], [1, 0])
        self.assertEqual(grow(order), ([0, 1], [(2, 1), (2, 1)]))

    def test_the_order_of_times(self):
        # The first client pays site 1 at 5 and exceeds its way to site 0, too, which is paid only at 7.
        order = Order(LINE, [(2, 2), (1, 5)], [1, 3])
        self.assertEqual(grow(order), ([1], [(5, 1), (7, 1)]))
        # The same with the numbers of the sites changed.
        order = Order(LINE, [(1, 5), (2, 2)], [1, 3])
        self.assertEqual(grow(order), ([0], [(5, 1), (7, 1)]))

    def test_opening_prices_of_0(self):
        # All sites are paid at 0; clients stop when they come to one.
        order = Order(LINE, [(0, 0), (3, 0), (0, 0)], [0, 1, 2, 4])
        self.assertEqual(grow(order), ([0, 1, 2], [(0, 1), (2, 1), (6, 1), (1, 1)]))
        order = Order(LINE, [(0, 0)], [0])
        self.assertEqual(grow(order), ([0], [(0, 1)]))

    def test_clients_at_a_site(self):
        order = Order(LINE, [(0, 7)], [0, 0, 0])
        self.assertEqual(grow(order), ([0], [(7, 3)] * 3))
        # Both are paid at 7 / 3, and share all clients.
        for sites in ([(0, 7), (1, 1)], [(1, 1), (0, 7)]):
            self.assertEqual(grow(Order(LINE, sites, [0, 0, 0])), ([0], [(7, 3)] * 3))

    def test_a_site_that_nobody_pays(self):
        order = Order(LINE, [(0, 1), (4, 900)], [0, 1])
        self.assertEqual(grow(order), ([0], [(1, 1), (2, 1)]))

    def test_without_clients(self):
        for openings, told in (([3, 1, 1, 2], [1]), ([0], [0]), ([5, 5], [0]), ([1, 0, 0], [1])):
            order = Order(LINE, [(k % 5, opening) for k, opening in enumerate(openings)], [])
            self.assertEqual(self.steady(grow, order), (told, []))

    def test_great_orders(self):
        for seed in range(433, 437):
            self.judge(great_order(seed, MILLION, MILLION))


class Duals(Case):
    def test_against_the_point(self):
        dice = random.Random(438)
        counts = [0, 0]
        for told in random_orders(439, 500):
            dual = pairs(Fraction(dice.randint(0, 20), dice.randint(1, 4)) for _ in told.ways)
            answer = self.steady(is_fair, told.order, dual)
            self.assertIs(answer, is_fair_in(told, told.openings, {}, dual))
            counts[answer] += 1
        self.assertGreater(min(counts), 100)

    def test_changed_duals(self):
        counts = [0, 0]
        for told in random_orders(440, 150, clients=(1, 5)):
            for dual in changed_duals(grow(told.order)[1]):
                answer = is_fair(told.order, dual)
                self.assertIs(answer, is_fair_in(told, told.openings, {}, dual))
                counts[answer] += 1
        self.assertGreater(min(counts), 100)

    def test_edges(self):
        order = Order(LINE, [(0, 3), (2, 1)], [1, 0])
        self.assertIs(is_fair(order, [(5, 1), (0, 1)]), True)
        self.assertIs(is_fair(order, [(5, 1), (1, 4)]), False)
        self.assertIs(is_fair(order, [(4, 1), (1, 1)]), True)
        self.assertIs(is_fair(order, [(9, 2), (1, 2)]), True)
        self.assertIs(is_fair(order, [(11, 2), (0, 1)]), False)
        self.assertIs(is_fair(order, [(0, 1), (-1, 1)]), False)
        self.assertIs(is_fair(order, [(-1, 9), (0, 1)]), False)
        for dual in ([], [(0, 1)], [(0, 1)] * 3):
            self.assertIs(is_fair(order, dual), False)
        none = Order(LINE, [(0, 0)], [])
        self.assertIs(is_fair(none, []), True)
        self.assertIs(is_fair(none, [(0, 1)]), False)

    def test_sums(self):
        self.assertEqual(dual_sum([]), (0, 1))
        self.assertEqual(self.steady(dual_sum, [(1, 2), (1, 3), (7, 6)]), (2, 1))
        self.assertEqual(dual_sum([(1, 2), (-3, 4)]), (-1, 4))


if __name__ == "__main__":
    unittest.main()
