"""Networks of vertices and edges with prices."""

from trunkweb.errors import BadEdge, BadPrice, BadVertex, OutOfRange, TooMany
from trunkweb.networks.checks import need_vertex

MOST_VERTICES = 40
MOST_EDGES = 200
# 2 to the power of 20.
MOST_PRICE = 1048576


def is_size(size):
    """Return whether a network may have this size."""
    return 1 <= size <= MOST_VERTICES


def is_price(price):
    """Return whether an edge may have this price."""
    return 0 <= price <= MOST_PRICE


def are_ends(size, u, v):
    """Return whether an edge may have these ends."""
    return 0 <= u < size and 0 <= v < size and u != v


class Network:
    """A network: its vertices are numbered from 0, and so are its edges."""

    def __init__(self, size, edges):
        if not is_size(size):
            raise OutOfRange(size)
        if len(edges) > MOST_EDGES:
            raise TooMany(len(edges))
        for number, (u, v, price) in enumerate(edges):
            if not are_ends(size, u, v):
                raise BadVertex(number)
            if not is_price(price):
                raise BadPrice(number)
        self._size = size
        self._edges = [(u, v, price) for u, v, price in edges]

    def size(self):
        """Return the number of vertices."""
        return self._size

    def edges(self):
        """Return the list of the triples (u, v, price)."""
        return list(self._edges)

    def around(self, vertex):
        """Return the ascending list of the edges that have the vertex as an end."""
        need_vertex(self._size, vertex)
        return [number for number, edge in enumerate(self._edges) if vertex in (edge[0], edge[1])]

    def leaving(self, vertex):
        """Return the ascending list of the arcs that begin at the vertex."""
        need_vertex(self._size, vertex)
        return [number for number, edge in enumerate(self._edges) if edge[0] == vertex]

    def entering(self, vertex):
        """Return the ascending list of the arcs that end at the vertex."""
        need_vertex(self._size, vertex)
        return [number for number, edge in enumerate(self._edges) if edge[1] == vertex]

    def other_end(self, number, vertex):
        """Return the other end of an edge that has the vertex as an end."""
        u, v, _ = self._edges[number]
        if u == vertex:
            return v
        return u

    def with_price(self, number, price):
        """Return a network with another price of an edge."""
        if not 0 <= number < len(self._edges):
            raise BadEdge(number)
        edges = list(self._edges)
        u, v, _ = edges[number]
        edges[number] = (u, v, price)
        # All else is good: so the new network raises BadPrice for this edge, or nothing.
        return Network(self._size, edges)
