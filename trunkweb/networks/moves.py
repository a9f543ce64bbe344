"""Moves along edges.

Moves are a list of rows, one for each vertex. The row of a vertex has a pair (number, other) for
each edge by which one can go from the vertex, with the vertex at which one arrives.
"""

from heapq import heapify, heappop, heappush


def some_moves(size, edges, numbers, arcs):
    """Return the moves along the edges with the given numbers."""
    rows = [[] for _ in range(size)]
    for number in numbers:
        edge = edges[number]
        rows[edge[0]].append((number, edge[1]))
        if not arcs:
            rows[edge[1]].append((number, edge[0]))
    return rows


def all_moves(network, arcs):
    """Return the moves along all edges of a network."""
    edges = network.edges()
    return some_moves(network.size(), edges, list(range(len(edges))), arcs)


def turned(rows):
    """Return the moves in the opposite direction."""
    back = [[] for _ in rows]
    for vertex, row in enumerate(rows):
        for number, other in row:
            back[other].append((number, vertex))
    return back


def reached(rows, start):
    """Return a list that says for each vertex whether it can be reached from the start."""
    found = [False] * len(rows)
    found[start] = True
    waiting = [start]
    while waiting:
        vertex = waiting.pop()
        for _, other in rows[vertex]:
            if not found[other]:
                found[other] = True
                waiting.append(other)
    return found


def listed(flags):
    """Return the ascending list of the indexes at which a list says True."""
    return [index for index, flag in enumerate(flags) if flag]


def flags_of(many, indexes):
    """Return a list of flags that says True at the given indexes, and False elsewhere."""
    flags = [False] * many
    for index in indexes:
        flags[index] = True
    return flags


def blocks(rows):
    """Return the classes of vertices that reach each other, if each move can be gone back."""
    found = []
    placed = [False] * len(rows)
    for vertex in range(len(rows)):
        if not placed[vertex]:
            block = listed(reached(rows, vertex))
            for other in block:
                placed[other] = True
            found.append(block)
    return found


def fewest_path(rows, start, goal):
    """Return the list of the numbers on a way of the fewest moves, or None."""
    paths = {start: []}
    level = [start]
    while level and goal not in paths:
        after = []
        for vertex in level:
            for number, other in rows[vertex]:
                if other not in paths:
                    paths[other] = paths[vertex] + [number]
                    after.append(other)
        level = after
    return paths.get(goal)


def path_end(rows, start, path):
    """Return the vertex to which a list of numbers leads from the start, or None if it is no path."""
    vertex = start
    for number in path:
        ends = [other for known, other in rows[vertex] if known == number]
        if not ends:
            return None
        vertex = ends[0]
    return vertex


def spread(rows, weights, firsts):
    """Return the least values that arrive at each vertex, None where none does.

    `firsts` has a value or None for each vertex with which moves may begin; the weight of each edge
    is added where one goes along it.
    """
    values = list(firsts)
    queue = [(value, vertex) for vertex, value in enumerate(firsts) if value is not None]
    heapify(queue)
    while queue:
        value, vertex = heappop(queue)
        if value == values[vertex]:
            for number, other in rows[vertex]:
                total = value + weights[number]
                if values[other] is None or total < values[other]:
                    values[other] = total
                    heappush(queue, (total, other))
    return values


def is_settled(rows, weights, values):
    """Return whether no move along an edge would give a vertex a lesser value."""
    for vertex, row in enumerate(rows):
        if values[vertex] is not None:
            for number, other in row:
                if values[other] is None or values[other] > values[vertex] + weights[number]:
                    return False
    return True


def prices_of(network):
    """Return the list of the prices of the edges."""
    return [edge[2] for edge in network.edges()]
