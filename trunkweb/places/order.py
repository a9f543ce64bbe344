"""Orders: sites that may be opened, and clients that go to them."""

from trunkweb.errors import BadPrice, BadSet, BadVertex, NoPath, OutOfRange, TooMany
from trunkweb.networks.network import is_price
from trunkweb.networks.paths import least_prices
from trunkweb.places.sets import is_opening, nearest, nearest_site

MOST_SITES = 10
MOST_CLIENTS = 20


def need_places(size, sites, clients):
    """Raise an error unless all sites and clients are good."""
    if not 1 <= len(sites) <= MOST_SITES:
        raise OutOfRange(len(sites))
    if len(clients) > MOST_CLIENTS:
        raise TooMany(len(clients))
    for index, (vertex, _) in enumerate(sites):
        if not 0 <= vertex < size:
            raise BadVertex(index)
    for index, (_, opening) in enumerate(sites):
        if not is_price(opening):
            raise BadPrice(index)
    for index, vertex in enumerate(clients):
        if not 0 <= vertex < size:
            raise BadVertex(index)


class Order:
    """An order: sites (vertex, opening) in a network, and clients, each with a way to every site."""

    def __init__(self, network, sites, clients):
        need_places(network.size(), sites, clients)
        rows = [least_prices(network, vertex, False) for vertex, _ in sites]
        self._ways = [[row[vertex] for row in rows] for vertex in clients]
        for index, ways in enumerate(self._ways):
            if None in ways:
                raise NoPath(index)
        self._openings = [opening for _, opening in sites]

    def openings(self):
        """Return the list of the opening prices."""
        return list(self._openings)

    def ways(self):
        """Return for each client the list of its ways to the sites."""
        return [list(ways) for ways in self._ways]

    def cost(self, numbers):
        """Return the cost of opening a set of sites."""
        if not is_opening(len(self._openings), numbers):
            raise BadSet(0)
        return sum([self._openings[number] for number in numbers]) + sum(nearest(self._ways, numbers))

    def goes(self, numbers):
        """Return the list of the open sites to which the clients go."""
        if not is_opening(len(self._openings), numbers):
            raise BadSet(0)
        return [nearest_site(ways, numbers) for ways in self._ways]
