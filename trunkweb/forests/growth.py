"""Moats that grow around parts of a network until edges are paid (Goemans and Williamson)."""

from trunkweb.programs.fractions import fraction, is_less, minus, plus


class Growth:
    """Parts of a network, at first each vertex alone, with moats around them.

    Parts are numbered; two that become one get the next number together.
    """

    def __init__(self, network):
        size = network.size()
        self._edges = network.edges()
        self._members = [[vertex] for vertex in range(size)]
        self._heights = [(0, 1)] * size
        # For each part, the heights of all parts within it together.
        self._spent = [(0, 1)] * size
        self._parts = list(range(size))
        # For each vertex, the heights of all parts around it together.
        self._depths = [(0, 1)] * size
        self._paid = []

    def parts(self):
        """Return the ascending list of the numbers of the parts that there are now."""
        return sorted(set(self._parts))

    def members(self, part):
        """Return the ascending list of the vertices of a part."""
        return list(self._members[part])

    def spent(self, part):
        """Return the sum of the heights of all parts within a part, itself included."""
        return self._spent[part]

    def paid(self):
        """Return the ascending list of the edges that made parts one."""
        return sorted(self._paid)

    def moats(self):
        """Return the moats: the parts whose heights are greater than 0."""
        rows = list(zip(self._members, self._heights))
        return [(list(members), height) for members, height in rows if height[0] > 0]

    def next_edge(self, growing):
        """Return the pair (span of growth, number) of the edge that is paid first if some parts grow, or None."""
        speeds = self._speeds(growing)
        best = None
        for number, (u, v, price) in enumerate(self._edges):
            speed = speeds[self._parts[u]] + speeds[self._parts[v]]
            if speed > 0 and self._parts[u] != self._parts[v]:
                left = minus((price, 1), plus(self._depths[u], self._depths[v]))
                span = fraction(left[0], left[1] * speed)
                if best is None or is_less(span, best[0]):
                    best = (span, number)
        return best

    def grow(self, growing, span):
        """Let some parts grow by a span."""
        for part in growing:
            self._heights[part] = plus(self._heights[part], span)
            self._spent[part] = plus(self._spent[part], span)
        speeds = self._speeds(growing)
        self._depths = [
            plus(depth, span) if speeds[part] > 0 else depth
            for depth, part in zip(self._depths, self._parts)
        ]

    def unite(self, number):
        """Make the parts at the two ends of an edge one."""
        u, v, _ = self._edges[number]
        one = self._parts[u]
        two = self._parts[v]
        both = len(self._members)
        self._members.append(sorted(self._members[one] + self._members[two]))
        self._heights.append((0, 1))
        self._spent.append(plus(self._spent[one], self._spent[two]))
        self._parts = [both if part in (one, two) else part for part in self._parts]
        self._paid.append(number)

    def _speeds(self, growing):
        """Return for each part how fast it grows: 1 or 0."""
        speeds = [0] * len(self._members)
        for part in growing:
            speeds[part] = 1
        return speeds
