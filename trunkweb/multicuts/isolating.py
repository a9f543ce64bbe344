"""Isolating cuts: the cheapest cuts between one terminal and all others."""

from trunkweb.errors import BadTerminal
from trunkweb.flows.residual import side_capacity
from trunkweb.multicuts.groups import greatest_of_group, near_side_of_group, need_terminals, value_of_group
from trunkweb.networks.checks import is_ascending
from trunkweb.networks.moves import flags_of


def need_terminal(size, terminals, number):
    """Raise an error unless these are terminals, and there is one with the number."""
    need_terminals(size, terminals)
    if not 0 <= number < len(terminals):
        raise BadTerminal(number)


def isolating_cut(network, terminals, number):
    """Return the triple of the least capacity of an isolating side, a group flow with it, and the near side."""
    need_terminal(network.size(), terminals, number)
    groups = [[vertex] for vertex in terminals]
    value, flow = greatest_of_group(network, groups, number, [0] * len(network.edges()))
    return value, flow, near_side_of_group(network, groups, number, flow)


def group_value(network, groups, number, flow):
    """Return the value of a list of integers as a group flow, or None if it is none."""
    return value_of_group(network, groups, number, flow)


def is_isolating(size, terminals, number, side):
    """Return whether a list of integers is an isolating side of a terminal."""
    if not is_ascending(side, size):
        return False
    return [vertex for vertex in terminals if vertex in side] == [terminals[number]]


def check_isolating(network, terminals, number, flow, side):
    """Return whether a flow and a side show that the one is greatest and the other one least."""
    need_terminal(network.size(), terminals, number)
    if not is_isolating(network.size(), terminals, number, side):
        return False
    value = value_of_group(network, [[vertex] for vertex in terminals], number, flow)
    return value == side_capacity(network, flags_of(network.size(), side), False)
