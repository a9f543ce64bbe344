"""Orders for the tests, and the points on them word by word."""

import random
from fractions import Fraction

from tests.programs import pair
from tests.samples import random_network, reach, sublists
from trunkweb.networks.network import Network
from trunkweb.places.order import Order


class Told:
    """An order with what it was made of, and its ways by going along all edges again and again."""

    def __init__(self, network, sites, clients):
        self.given = (network, sites, clients)
        self.order = Order(network, sites, clients)
        self.openings = [opening for _, opening in sites]
        self.ways = [[way_of(network, client, vertex) for vertex, _ in sites] for client in clients]

    def sets(self, most=None):
        """All sets of at least one and at most `most` sites."""
        return [some for some in sublists(range(len(self.openings)), 1) if most is None or len(some) <= most]

    def ways_to(self, numbers):
        """The sum of the least ways of all clients to some sites."""
        return sum(min(row[number] for number in numbers) for row in self.ways)

    def cost(self, numbers):
        """Point 802, word by word."""
        return sum(self.openings[number] for number in numbers) + self.ways_to(numbers)


def way_of(network, start, goal):
    """The distance of two vertices."""
    known = {start: 0}
    for _ in range(network.size()):
        for u, v, price in network.edges():
            for one, two in ((u, v), (v, u)):
                if one in known and known[one] + price < known.get(two, float("inf")):
                    known[two] = known[one] + price
    return known[goal]


def random_order(dice, size=(1, 6), sites=(1, 5), clients=(0, 5), price=9, opening=9):
    """An order in a random network whose parts are joined; few prices make many ties."""
    n = dice.randint(*size)
    network = random_network(dice, n, dice.randint(0, 2 * n), price)
    edges = network.edges()
    for vertex in range(1, n):
        if vertex not in reach(Network(n, edges), 0, False):
            edges.append((dice.randrange(vertex), vertex, dice.randint(0, price)))
    return Told(Network(n, edges), [(dice.randrange(n), dice.randint(0, opening)) for _ in range(dice.randint(*sites))],
                [dice.randrange(n) for _ in range(dice.randint(*clients))])


def random_orders(seed, count, *given, **more):
    """A list of random orders, with prices and opening prices of different sizes."""
    dice = random.Random(seed)
    return [random_order(dice, *given, price=dice.choice((0, 1, 3, 9)), opening=dice.choice((0, 2, 9, 30)), **more)
            for _ in range(count)]


def great_order(seed, price=1000, opening=3000):
    """An order of 10 sites and 20 clients in a network of 40 vertices."""
    return random_order(random.Random(seed), (40, 40), (10, 10), (20, 20), price, opening)


def over(amount, way):
    """What an amount exceeds a way."""
    return max(Fraction(0), amount - way)


def is_dual(told, dual):
    """Point 803: whether a list is a dual."""
    return len(dual) == len(told.ways) and all(amount[0] >= 0 for amount in dual)


def is_fair(told, prices, case, dual):
    """Points 803 and 805: whether a dual is fair in a case, a dict of open (True) and closed sites (False)."""
    if not is_dual(told, dual):
        return False
    values = [Fraction(*amount) for amount in dual]
    for site, price in enumerate(prices):
        if case.get(site) is True and any(value > row[site] for value, row in zip(values, told.ways)):
            return False
        if site not in case and sum(over(value, row[site]) for value, row in zip(values, told.ways)) > price:
            return False
    return True


def changed_duals(dual):
    """Lists of fractions that differ from a dual."""
    yield dual[:-1]
    yield dual + [(0, 1)]
    for k, amount in enumerate(dual[:3]):
        for change in (1, -1, Fraction(1, 3), Fraction(-1, 3), -10 ** 6):
            yield dual[:k] + [pair(Fraction(*amount) + change)] + dual[k + 1:]


def changed_trees(tree, many):
    """Trees that differ from a given one."""
    yield ("none",)
    if tree[0] == "bound":
        for dual in changed_duals(tree[-1]):
            yield tree[:-1] + (dual,)
        for site in (-1, 0, many - 1, many):
            yield ("site", site, tree, tree)
        if len(tree) == 3:
            for change in (-1, 1, Fraction(1, 2), Fraction(-1, 2), 10):
                yield ("bound", pair(Fraction(*tree[1]) + change), tree[2])
    elif tree[0] == "site":
        _, site, one, two = tree
        for other in (-1, many, site - 1, site + 1, 10 ** 20, -many):
            yield ("site", other, one, two)
        yield ("site", site, two, one)
        yield ("site", site, one, one)
        yield ("site", site, tree, two)
        yield ("site", site, one, tree)
        yield one
        yield two
        for part in changed_trees(one, many):
            yield ("site", site, part, two)
        for part in changed_trees(two, many):
            yield ("site", site, one, part)
