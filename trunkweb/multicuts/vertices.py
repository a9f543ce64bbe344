"""Vertex cuts: vertices without which there is no path from a start to a goal. Edges can be gone both ways."""

from trunkweb.errors import BadPrice, Joined, OutOfRange
from trunkweb.flows.packings import paths_of
from trunkweb.flows.residual import filled, room_moves
from trunkweb.networks.checks import is_ascending, need_two
from trunkweb.networks.moves import all_moves, blocks, flags_of, path_end, reached
from trunkweb.networks.network import is_price


def need_apart(network, weights, start, goal):
    """Raise an error unless there is a weight for each vertex, and no edge joins a start and a goal."""
    if len(weights) != network.size():
        raise OutOfRange(len(weights))
    for vertex, weight in enumerate(weights):
        if not is_price(weight):
            raise BadPrice(vertex)
    need_two(network.size(), start, goal)
    for number, edge in enumerate(network.edges()):
        if start in edge[:2] and goal in edge[:2]:
            raise Joined(number)


def split_limits(network, weights):
    """Return the limits of flows through vertices, each of which is split into two.

    What arrives at a vertex arrives at its number, and leaves from its number plus the size. First come
    the ways through the vertices, then two for each edge.
    """
    size = network.size()
    # More than ever flows: so only ways through vertices are in a least cut.
    most = sum(weights) + 1
    limits = [(vertex, vertex + size, 0, weight) for vertex, weight in enumerate(weights)]
    for u, v, _ in network.edges():
        limits.append((u + size, v, 0, most))
        limits.append((v + size, u, 0, most))
    return limits


def flow_through(network, weights, start, goal, most):
    """Return the triple of the limits, the greatest value of a flow, at most `most`, and a flow with it."""
    size = network.size()
    limits = split_limits(network, weights)
    value, flow = filled(2 * size, limits, start + size, goal, [0] * len(limits), most)
    return limits, value, flow


def cut_of(network, limits, flow, start):
    """Return the vertex cut of a greatest flow that is nearest to the start."""
    size = network.size()
    near = reached(room_moves(2 * size, limits, flow), start + size)
    return [vertex for vertex in range(size) if near[vertex] and not near[vertex + size]]


def least_vertex_cut(network, weights, start, goal):
    """Return the triple of the least weight of a vertex cut, such a cut, and a packing of paths."""
    need_apart(network, weights, start, goal)
    size = network.size()
    limits, value, flow = flow_through(network, weights, start, goal, sum(weights))
    rows = []
    for amount, path in paths_of(2 * size, limits, flow, start + size, goal):
        rows.append((amount, [(number - size) // 2 for number in path if number >= size]))
    return value, cut_of(network, limits, flow, start), rows


def nearest_vertex_cut(network, weights, start, goal):
    """Return the vertex cut of the least weight that is nearest to the start, if all weights are at least 1."""
    need_apart(network, weights, start, goal)
    for vertex, weight in enumerate(weights):
        if weight == 0:
            raise BadPrice(vertex)
    return least_vertex_cut(network, weights, start, goal)[1]


def moves_without(network, cut):
    """Return the moves along all edges that do not lead to one of some vertices."""
    barred = flags_of(network.size(), cut)
    return [[move for move in row if not barred[move[1]]] for row in all_moves(network, False)]


def is_vertex_cut(network, start, goal, cut):
    """Return whether a list of integers is a vertex cut."""
    if not is_ascending(cut, network.size()) or start in cut or goal in cut:
        return False
    return not reached(moves_without(network, cut), start)[goal]


def vertices_on(network, start, path):
    """Return the ascending list of the vertices to which a path comes, each once."""
    vertex = start
    passed = [start]
    for number in path:
        vertex = network.other_end(number, vertex)
        passed.append(vertex)
    return sorted(set(passed))


def is_packing(network, weights, start, goal, rows):
    """Return whether a list of pairs (amount, path) is a packing of paths."""
    moves = all_moves(network, False)
    loads = [0] * network.size()
    for amount, path in rows:
        if amount < 1 or path_end(moves, start, path) != goal:
            return False
        for vertex in vertices_on(network, start, path):
            loads[vertex] += amount
    for vertex, load in enumerate(loads):
        if vertex not in (start, goal) and load > weights[vertex]:
            return False
    return True


def check_vertex_cut(network, weights, start, goal, cut, rows):
    """Return whether a cut and a packing show that the one is least and the other one greatest."""
    need_apart(network, weights, start, goal)
    if not is_vertex_cut(network, start, goal, cut) or not is_packing(network, weights, start, goal, rows):
        return False
    return sum([weights[vertex] for vertex in cut]) == sum([amount for amount, _ in rows])


def weakest(network):
    """Return as few vertices as possible without which the others are not connected, or None."""
    size = network.size()
    best = None
    for start in range(size):
        # If there is a smaller cut, one of as many first vertices as the best one has is outside of it.
        if best is None or start < len(best):
            for goal in range(start + 1, size):
                # If an edge joins the two, as much flows as may: so there is no cut then.
                most = size if best is None else len(best)
                limits, value, flow = flow_through(network, [1] * size, start, goal, most)
                if value < most:
                    best = cut_of(network, limits, flow, start)
    return best


def connectivity(network):
    """Return the least number of vertices without which the others are not connected, or the size less 1."""
    cut = weakest(network)
    return network.size() - 1 if cut is None else len(cut)
