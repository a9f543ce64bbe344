"""What is left of a network while rows of a reduction are applied."""

from trunkweb.networks.moves import flags_of, some_moves
from trunkweb.networks.network import MOST_PRICE, Network


class Rest:
    """The edges that are left, under their numbers, and what each of them stands for."""

    def __init__(self, network, terminals):
        self._size = network.size()
        self._ends = flags_of(network.size(), terminals)
        # An edge that was taken out leaves None, so that the others keep their numbers.
        self._edges = network.edges()
        self._origins = [[number] for number in range(len(self._edges))]

    def many(self):
        """Return the number that a new edge would get."""
        return len(self._edges)

    def has(self, number):
        """Return whether there is an edge with this number, and it is left."""
        return 0 <= number < len(self._edges) and self._edges[number] is not None

    def edge(self, number):
        """Return the triple of an edge that is left."""
        return self._edges[number]

    def is_terminal(self, vertex):
        """Return whether a vertex is a terminal."""
        return self._ends[vertex]

    def left(self):
        """Return the ascending list of the numbers of the edges that are left."""
        return [number for number, edge in enumerate(self._edges) if edge is not None]

    def moves_without(self, number):
        """Return the moves along the edges that are left, other than one."""
        numbers = [known for known in self.left() if known != number]
        return some_moves(self._size, self._edges, numbers, False)

    def apply(self, row):
        """Apply a row if its reason holds; return whether it does."""
        if row[0] == "leaf":
            return self._cut_leaf(row[1])
        if row[0] == "series":
            return self._join_series(row[1])
        return self._take_longer(row[1], row[2])

    def outcome(self):
        """Return the pair of the network that is left, and the list of what its edges stand for."""
        numbers = self.left()
        network = Network(self._size, [self._edges[number] for number in numbers])
        return network, [list(self._origins[number]) for number in numbers]

    def _around(self, vertex):
        """Return the pairs (number, other) of the edges at a vertex; none if it is no inner one."""
        if not 0 <= vertex < self._size or self._ends[vertex]:
            return []
        return self.moves_without(None)[vertex]

    def _cut_leaf(self, vertex):
        """Take out the edges of a vertex that has only one neighbour."""
        pairs = self._around(vertex)
        if len(set([other for _, other in pairs])) != 1:
            return False
        for number, _ in pairs:
            self._edges[number] = None
        return True

    def _join_series(self, vertex):
        """Put one edge in the place of the only two edges of a vertex."""
        pairs = self._around(vertex)
        if len(pairs) != 2 or pairs[0][1] == pairs[1][1]:
            return False
        (first, x), (second, y) = pairs
        price = self._edges[first][2] + self._edges[second][2]
        if price > MOST_PRICE:
            return False
        self._edges[first] = None
        self._edges[second] = None
        self._edges.append((x, y, price))
        self._origins.append(sorted(self._origins[first] + self._origins[second]))
        return True

    def _take_longer(self, number, walk):
        """Take out an edge if a walk shows that no tree needs it."""
        if not self.has(number) or number in walk:
            return False
        vertex, goal, most = self._edges[number]
        piece = 0
        for step in walk:
            if not self.has(step) or vertex not in self._edges[step][:2]:
                return False
            u, v, price = self._edges[step]
            vertex = v if vertex == u else u
            piece += price
            if piece > most:
                return False
            if self._ends[vertex]:
                piece = 0
        if vertex != goal:
            return False
        self._edges[number] = None
        return True
