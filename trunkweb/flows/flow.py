"""Greatest flows, least cuts, and their check."""

from trunkweb.errors import BadVertex
from trunkweb.flows.residual import greatest_within, is_within, limits_of, outflows, room_moves, side_capacity
from trunkweb.networks.checks import is_ascending, need_two, need_vertex
from trunkweb.networks.moves import flags_of, listed, reached, turned


def is_flow(network, start, goal, flow, arcs):
    """Return whether a list of integers is a flow."""
    need_two(network.size(), start, goal)
    return is_within(network.size(), limits_of(network, arcs), start, goal, flow)


def out_of(network, vertex, flow, arcs):
    """Return what flows out at a vertex, less what flows in."""
    need_vertex(network.size(), vertex)
    return outflows(network.size(), limits_of(network, arcs), flow)[vertex]


def capacity(network, side, arcs):
    """Return the capacity of an ascending list of vertices."""
    last = -1
    for vertex in side:
        if not last < vertex < network.size():
            raise BadVertex(vertex)
        last = vertex
    return side_capacity(network, flags_of(network.size(), side), arcs)


def is_side(network, start, goal, side):
    """Return whether a list of integers is a side for a start and a goal."""
    return is_ascending(side, network.size()) and start in side and goal not in side


def greatest_flow(network, start, goal, arcs):
    """Return the triple of the greatest value, a flow with it, and the near side."""
    size = network.size()
    need_two(size, start, goal)
    limits = limits_of(network, arcs)
    value, flow = greatest_within(size, limits, start, goal)
    return value, flow, listed(reached(room_moves(size, limits, flow), start))


def near_side(network, start, goal, arcs):
    """Return the least side that is a part of all others."""
    return greatest_flow(network, start, goal, arcs)[2]


def far_side(network, start, goal, arcs):
    """Return the least side of which all others are parts."""
    size = network.size()
    need_two(size, start, goal)
    limits = limits_of(network, arcs)
    flow = greatest_within(size, limits, start, goal)[1]
    behind = reached(turned(room_moves(size, limits, flow)), goal)
    return [vertex for vertex in range(size) if not behind[vertex]]


def check_flow(network, start, goal, flow, side, arcs):
    """Return whether a flow and a side show that the one is greatest and the other one least."""
    if not is_flow(network, start, goal, flow, arcs) or not is_side(network, start, goal, side):
        return False
    return out_of(network, start, flow, arcs) == capacity(network, side, arcs)
