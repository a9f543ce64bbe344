"""Flows of least cost: edges are arcs, and the price of an arc is that of each unit."""

from trunkweb.errors import BadPrice, OutOfRange, TooMuch
from trunkweb.flows.residual import all_highs, filled, greatest_within, is_within
from trunkweb.networks.checks import need_two
from trunkweb.networks.moves import prices_of
from trunkweb.networks.network import is_price


def need_capacities(network, capacities):
    """Raise an error unless there is a capacity for each edge, each in the range of prices."""
    if len(capacities) != len(network.edges()):
        raise OutOfRange(len(capacities))
    for number, most in enumerate(capacities):
        if not is_price(most):
            raise BadPrice(number)


def given_limits(network, capacities):
    """Return the limits of arcs with these capacities."""
    return [(edge[0], edge[1], 0, most) for edge, most in zip(network.edges(), capacities)]


def lowered(limits, prices, flow, firsts):
    """Return the least numbers to which moves with room lead, from the first ones on.

    A move back along an arc takes its price off; no circle of moves with room has a price below 0.
    """
    values = list(firsts)
    changed = True
    while changed:
        changed = False
        for number, (u, v, low, high) in enumerate(limits):
            if flow[number] < high and values[u] is not None:
                if values[v] is None or values[u] + prices[number] < values[v]:
                    values[v] = values[u] + prices[number]
                    changed = True
            if flow[number] > low and values[v] is not None:
                if values[u] is None or values[v] - prices[number] < values[u]:
                    values[u] = values[v] - prices[number]
                    changed = True
    return values


def exact_limits(limits, prices, flow, values):
    """Return the limits in which only those arcs are left free by which one goes at the least price."""
    found = []
    for (u, v, low, high), price, amount in zip(limits, prices, flow):
        if values[u] is not None and values[v] is not None and values[u] + price == values[v]:
            found.append((u, v, low, high))
        else:
            found.append((u, v, amount, amount))
    return found


def cheap_rounds(network, limits, start, goal, most):
    """Return the pair of the steps up to the value `most`, and a flow of least cost of this value.

    Each round sends all that can be sent at the least price of a unit; so the price rises from round
    to round.
    """
    prices = prices_of(network)
    firsts = [None] * network.size()
    firsts[start] = 0
    flow = [0] * len(limits)
    steps = []
    left = most
    while left > 0:
        values = lowered(limits, prices, flow, firsts)
        if values[goal] is None:
            break
        free = exact_limits(limits, prices, flow, values)
        count, flow = filled(network.size(), free, start, goal, flow, left)
        steps.append((count, values[goal]))
        left -= count
    return steps, flow


def cheapest_flow(network, capacities, start, goal, amount):
    """Return the least cost of a flow of a value, such a flow, and potentials that are accepted for it."""
    need_capacities(network, capacities)
    size = network.size()
    need_two(size, start, goal)
    limits = given_limits(network, capacities)
    value = greatest_within(size, limits, start, goal)[0]
    if value < amount:
        raise TooMuch(value)
    steps, flow = cheap_rounds(network, limits, start, goal, amount)
    cost = sum([count * price for count, price in steps])
    return cost, flow, lowered(limits, prices_of(network), flow, [0] * size)


def are_accepted(network, limits, flow, potentials):
    """Return whether potentials are accepted for a flow."""
    if len(potentials) != network.size():
        return False
    for (u, v, low, high), price, amount in zip(limits, prices_of(network), flow):
        if amount < high and potentials[u] + price < potentials[v]:
            return False
        if amount > low and potentials[u] + price > potentials[v]:
            return False
    return True


def check_cheapest(network, capacities, start, goal, flow, potentials):
    """Return whether potentials show that no flow of the same value has a lesser cost."""
    need_capacities(network, capacities)
    need_two(network.size(), start, goal)
    limits = given_limits(network, capacities)
    if not is_within(network.size(), limits, start, goal, flow):
        return False
    return are_accepted(network, limits, flow, potentials)


def cost_steps(network, capacities, start, goal):
    """Return the list of the pairs (count, price): how many units cost how much each."""
    need_capacities(network, capacities)
    need_two(network.size(), start, goal)
    limits = given_limits(network, capacities)
    return cheap_rounds(network, limits, start, goal, all_highs(limits))[0]
