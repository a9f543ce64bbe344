"""Packings of paths, and paths that are apart."""

from trunkweb.flows.flow import is_side
from trunkweb.flows.residual import carried_moves, greatest_within, leaving_edges, limits_of, room_moves
from trunkweb.flows.residual import side_capacity, unit_limits
from trunkweb.networks.checks import is_ascending, need_two
from trunkweb.networks.moves import all_moves, fewest_path, flags_of, path_end, reached, some_moves


def paths_of(size, limits, flow, start, goal):
    """Return a list of pairs (amount, path) that carry what flows from the start to the goal."""
    rows = []
    left = list(flow)
    while True:
        path = fewest_path(carried_moves(size, limits, left), start, goal)
        if path is None:
            return rows
        amount = min([abs(left[number]) for number in path])
        for number in path:
            if left[number] > 0:
                left[number] -= amount
            else:
                left[number] += amount
        rows.append((amount, path))


def packing(network, start, goal, arcs):
    """Return a packing of the greatest value."""
    size = network.size()
    need_two(size, start, goal)
    limits = limits_of(network, arcs)
    flow = greatest_within(size, limits, start, goal)[1]
    return paths_of(size, limits, flow, start, goal)


def is_packing(network, start, goal, rows, arcs):
    """Return whether a list of pairs (amount, path) is a packing."""
    moves = all_moves(network, arcs)
    loads = [0] * len(network.edges())
    for amount, path in rows:
        if amount < 1 or path_end(moves, start, path) != goal:
            return False
        for number in path:
            loads[number] += amount
    return all([load <= edge[2] for load, edge in zip(loads, network.edges())])


def check_packing(network, start, goal, rows, side, arcs):
    """Return whether a packing and a side show that the one is greatest and the other one least."""
    need_two(network.size(), start, goal)
    if not is_packing(network, start, goal, rows, arcs) or not is_side(network, start, goal, side):
        return False
    inside = flags_of(network.size(), side)
    return sum([amount for amount, _ in rows]) == side_capacity(network, inside, arcs)


def disjoint_paths(network, start, goal, arcs):
    """Return as many paths as possible that are apart, and as many edges that each path has one of."""
    size = network.size()
    need_two(size, start, goal)
    limits = unit_limits(network, arcs)
    flow = greatest_within(size, limits, start, goal)[1]
    near = reached(room_moves(size, limits, flow), start)
    paths = [path for _, path in paths_of(size, limits, flow, start, goal)]
    return paths, leaving_edges(network, near, arcs)


def are_apart(network, start, goal, paths, arcs):
    """Return whether these are paths, and no edge stands twice in them."""
    moves = all_moves(network, arcs)
    used = [False] * len(network.edges())
    for path in paths:
        if path_end(moves, start, path) != goal:
            return False
        for number in path:
            if used[number]:
                return False
            used[number] = True
    return True


def check_disjoint(network, start, goal, paths, edges, arcs):
    """Return whether paths and edges show that no more paths are apart."""
    size = network.size()
    need_two(size, start, goal)
    known = network.edges()
    if len(paths) != len(edges) or not is_ascending(edges, len(known)):
        return False
    if not are_apart(network, start, goal, paths, arcs):
        return False
    left = [number for number in range(len(known)) if number not in edges]
    return not reached(some_moves(size, known, left, arcs), start)[goal]
