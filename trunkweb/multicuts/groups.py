"""Flows between groups of vertices. Edges can be gone in both directions."""

from trunkweb.errors import BadTerminal, OutOfRange
from trunkweb.flows.residual import all_highs, filled, limits_of, outflows, room_moves
from trunkweb.networks.moves import listed, reached

FEWEST_TERMINALS = 2
MOST_TERMINALS = 8


def need_terminals(size, terminals):
    """Raise an error unless these are 2 to 8 ascending vertices."""
    if not FEWEST_TERMINALS <= len(terminals) <= MOST_TERMINALS:
        raise OutOfRange(len(terminals))
    last = -1
    for index, vertex in enumerate(terminals):
        if not last < vertex < size:
            raise BadTerminal(index)
        last = vertex


def joined_limits(network, groups, number):
    """Return the limits of a network in which the group with a number is one vertex, all others another one.

    The numbers of these two vertices are the size and the size + 1.
    """
    size = network.size()
    places = list(range(size))
    for index, group in enumerate(groups):
        for vertex in group:
            places[vertex] = size if index == number else size + 1
    return [(places[u], places[v], low, high) for u, v, low, high in limits_of(network, False)]


def greatest_of_group(network, groups, number, flow):
    """Return the pair of the greatest value of a group flow, and one with it.

    It is made from a given group flow whose value is not below 0.
    """
    size = network.size()
    limits = joined_limits(network, groups, number)
    after = filled(size + 2, limits, size, size + 1, flow, all_highs(limits))[1]
    return outflows(size + 2, limits, after)[size], after


def near_side_of_group(network, groups, number, flow):
    """Return the isolating side of the least capacity that is a part of all others, from a greatest flow."""
    size = network.size()
    near = reached(room_moves(size + 2, joined_limits(network, groups, number), flow), size)
    for vertex in groups[number]:
        near[vertex] = True
    return listed(near[:size])


def value_of_group(network, groups, number, flow):
    """Return the value of a list of integers as a group flow, or None if it is none."""
    limits = limits_of(network, False)
    if len(flow) != len(limits):
        return None
    for limit, amount in zip(limits, flow):
        if not limit[2] <= amount <= limit[3]:
            return None
    totals = outflows(network.size(), limits, flow)
    value = sum([totals[vertex] for vertex in groups[number]])
    for group in groups:
        for vertex in group:
            totals[vertex] = 0
    return value if totals == [0] * network.size() else None
