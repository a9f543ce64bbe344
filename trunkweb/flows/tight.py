"""Edges whose capacity decides the greatest value of a flow."""

from trunkweb.flows.residual import greatest_within, limits_of, room_moves
from trunkweb.networks.checks import need_two
from trunkweb.networks.moves import reached


def room_reach(network, start, goal, arcs):
    """Return for each vertex the flags of those that a greatest flow leaves room to reach from it.

    The least sides are just those sides from which no vertex outside can be reached by this room.
    """
    size = network.size()
    limits = limits_of(network, arcs)
    flow = greatest_within(size, limits, start, goal)[1]
    rows = room_moves(size, limits, flow)
    return [reached(rows, vertex) for vertex in range(size)]


def is_parted(reach, start, goal, u, v):
    """Return whether some least side has u, but not v."""
    # The smallest one with u, if there is one, has all that the start and u reach.
    return not (reach[start][v] or reach[u][v] or reach[u][goal])


def is_spanned(reach, start, goal, u, v):
    """Return whether all least sides have u, and none has v."""
    # The near side is what the start reaches; outside of the far side is what reaches the goal.
    return reach[start][u] and reach[v][goal]


def tight_edges(network, start, goal, arcs):
    """Return the ascending list of the edges that leave some least side."""
    need_two(network.size(), start, goal)
    reach = room_reach(network, start, goal, arcs)
    return [
        number for number, (u, v, _) in enumerate(network.edges())
        if is_parted(reach, start, goal, u, v) or not arcs and is_parted(reach, start, goal, v, u)
    ]


def bottlenecks(network, start, goal, arcs):
    """Return the ascending list of the edges that leave all least sides."""
    need_two(network.size(), start, goal)
    reach = room_reach(network, start, goal, arcs)
    return [
        number for number, (u, v, _) in enumerate(network.edges())
        if is_spanned(reach, start, goal, u, v) or not arcs and is_spanned(reach, start, goal, v, u)
    ]
