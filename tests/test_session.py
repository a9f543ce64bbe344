"""Sessions (point 1004)."""

import random
import time
import unittest

from tests.cases import Case
from tests.programs import MILLION
from tests.samples import great_network, small_networks
from tests.tasks import random_task
from trunkweb.errors import BadEdge, BadPrice, NothingToUndo, TooMany
from trunkweb.networks.network import Network
from trunkweb.prices.session import Session
from trunkweb.prices.tasks import answer, least_price

NET = Network(4, [(0, 1, 2), (1, 2, 3), (0, 2, 9), (2, 3, 4)])
TASKS = [("path", 0, 2), ("arcs", 3, 0), ("forest",), ("arborescence", 0), ("steiner", [3, 1])]


class Sessions(Case):
    def judge(self, session, network, tasks):
        """Test that a session tells what is so in a network."""
        self.assertEqual(session.answers(), [answer(network, task) for task in tasks])
        self.assertEqual(session.prices(), [least_price(network, task) for task in tasks])
        self.assertEqual(session.network().size(), network.size())
        self.assertEqual(session.network().edges(), network.edges())

    def changed(self, before, after):
        """The indexes at which two lists of answers differ."""
        return [at for at, (one, two) in enumerate(zip(before, after)) if one != two]

    def test_random_changes(self):
        dice = random.Random(541)
        counts = [0, 0]
        for network in small_networks(542, 120, (1, 5), (1, 8)):
            tasks = [random_task(dice, network) for _ in range(dice.randint(0, 6))]
            states = [(Session(network, tasks), [network])]
            for _ in range(15):
                session, known = dice.choice(states)
                before = session.answers()
                if dice.random() < 0.15 and len(states) < 4:
                    states.append((session.copy(), list(known)))
                    self.judge(states[-1][0], known[-1], tasks)
                elif dice.random() < 0.35:
                    if len(known) == 1:
                        self.fails(NothingToUndo, 0, session.undo)
                    else:
                        known.pop()
                        self.assertEqual(session.undo(), self.changed(before, session.answers()))
                elif network.edges():
                    number, price = dice.randrange(len(network.edges())), dice.choice((0, 1, 3, 9, MILLION))
                    known.append(known[-1].with_price(number, price))
                    told = session.set_price(number, price)
                    self.assertEqual(told, self.changed(before, session.answers()))
                    counts[bool(told)] += 1
                for session, known in states:
                    self.judge(session, known[-1], tasks)
        self.assertGreater(min(counts), 100)

    def test_a_session(self):
        session = Session(NET, TASKS)
        self.assertEqual(session.answers(), [[0, 1], None, [0, 1, 3], [0, 1, 3], [1, 3]])
        self.assertEqual(session.prices(), [5, None, 9, 9, 7])
        self.assertEqual(session.set_price(2, 3), [0])
        self.assertEqual(session.answers()[0], [2])
        self.assertEqual(session.set_price(2, 2), [2, 3])
        self.assertEqual(session.set_price(2, 2), [])
        self.assertEqual(session.undo(), [])
        self.assertEqual(session.undo(), [2, 3])
        self.assertEqual(session.undo(), [0])
        self.judge(session, NET, TASKS)
        self.fails(NothingToUndo, 0, session.undo)

    def test_copies_go_on_by_themselves(self):
        session = Session(NET, TASKS)
        session.set_price(0, 1)
        session.set_price(1, 1)
        other = session.copy()
        self.assertIsInstance(other, Session)
        session.undo()
        other.set_price(2, 0)
        self.judge(session, NET.with_price(0, 1), TASKS)
        now = NET.with_price(0, 1).with_price(1, 1)
        self.judge(other, now.with_price(2, 0), TASKS)
        # The copy has the changes of the first one to take back, and its own.
        for network in (now, NET.with_price(0, 1), NET):
            other.undo()
            self.judge(other, network, TASKS)
        self.fails(NothingToUndo, 0, other.undo)
        self.judge(session, NET.with_price(0, 1), TASKS)
        session.undo()
        self.judge(session, NET, TASKS)

    def test_what_is_refused_changes_nothing(self):
        session = Session(NET, TASKS)
        session.set_price(2, 1)
        now = NET.with_price(2, 1)
        for number in (-1, 4, -4, 10 ** 20):
            self.fails(BadEdge, number, session.set_price, number, -1)
            self.fails(BadEdge, number, session.set_price, number, 1)
        for price in (-1, MILLION + 1, 10 ** 20):
            self.fails(BadPrice, 3, session.set_price, 3, price)
            self.fails(BadPrice, 0, session.set_price, 0, price)
        self.judge(session, now, TASKS)
        session.undo()
        self.judge(session, NET, TASKS)
        self.fails(NothingToUndo, 0, session.undo)
        self.judge(session, NET, TASKS)
        session.set_price(0, MILLION)
        self.judge(session, NET.with_price(0, MILLION), TASKS)

    def test_lists_that_are_handed_in_may_be_changed(self):
        terminals = [3, 1]
        tasks = [("path", 0, 2), ("steiner", terminals)]
        edges = [(0, 1, 2), (1, 2, 3), (0, 2, 9), (2, 3, 4)]
        session = Session(Network(4, edges), tasks)
        other = session.copy()
        tasks.append(("forest",))
        tasks[0] = ("forest",)
        terminals.append(0)
        edges.pop()
        for known in (session, other, session.copy()):
            self.assertEqual(known.answers(), [[0, 1], [1, 3]])
            self.assertEqual(known.set_price(2, 4), [0])
            self.assertEqual(known.answers(), [[2], [1, 3]])

    def test_lists_that_are_told_may_be_changed(self):
        session = Session(NET, TASKS)
        other = session.copy()
        told = session.answers()
        told[0].append(7)
        told[2].clear()
        told.pop()
        prices = session.prices()
        prices[0] = 99
        edges = session.network().edges()
        edges.clear()
        changed = session.set_price(2, 3)
        changed.append(4)
        self.assertEqual(session.undo(), [0])
        self.judge(session, NET, TASKS)
        self.judge(other, NET, TASKS)
        for call in (session.answers, session.prices):
            self.steady(call)

    def test_the_network_stays(self):
        session = Session(NET, TASKS)
        first = session.network()
        session.set_price(0, 100)
        self.assertEqual(NET.edges()[0], (0, 1, 2))
        self.assertEqual(first.edges()[0], (0, 1, 2))
        self.assertEqual(session.network().edges()[0], (0, 1, 100))

    def test_no_tasks(self):
        session = Session(NET, [])
        self.assertEqual((session.answers(), session.prices(), session.set_price(0, 1), session.undo()),
                         ([], [], [], []))

    def test_too_many(self):
        for many in (13, 20):
            self.fails(TooMany, many, Session, NET, [("forest",)] * many)
        self.assertEqual(len(Session(NET, [("forest",)] * 12).answers()), 12)

    def test_great_networks(self):
        network = great_network(543)
        dice = random.Random(544)
        tasks = [random_task(dice, network, kind, 5) for kind in
                 ("path", "arcs", "forest", "arborescence", "steiner", "steiner") * 2]
        before = time.perf_counter()
        session = Session(network, tasks)
        for _ in range(10):
            number, price = dice.randrange(200), dice.randint(0, MILLION)
            network = network.with_price(number, price)
            session.set_price(number, price)
        self.judge(session, network, tasks)
        for _ in range(10):
            session.undo()
        self.judge(session, great_network(543), tasks)
        self.assertLess(time.perf_counter() - before, 60)


if __name__ == "__main__":
    unittest.main()
