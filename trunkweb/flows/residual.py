"""Flows within limits.

Limits are a list with a tuple (u, v, low, high) for each edge: its ends, and the least and the
greatest number that a flow may have for it. A negative number flows from v to u.
"""

from trunkweb.networks.moves import fewest_path


def limits_of(network, arcs):
    """Return the limits of a network whose prices are its capacities."""
    if arcs:
        return [(u, v, 0, price) for u, v, price in network.edges()]
    return [(u, v, -price, price) for u, v, price in network.edges()]


def unit_limits(network, arcs):
    """Return the limits of a network if all capacities are 1."""
    if arcs:
        return [(edge[0], edge[1], 0, 1) for edge in network.edges()]
    return [(edge[0], edge[1], -1, 1) for edge in network.edges()]


def all_highs(limits):
    """Return a number that no flow within the limits has a greater value than."""
    return sum([limit[3] for limit in limits])


def room_moves(size, limits, flow):
    """Return the moves along which a flow can be made greater."""
    rows = [[] for _ in range(size)]
    for number, (u, v, low, high) in enumerate(limits):
        if flow[number] < high:
            rows[u].append((number, v))
        if flow[number] > low:
            rows[v].append((number, u))
    return rows


def carried_moves(size, limits, flow):
    """Return the moves along which something flows."""
    rows = [[] for _ in range(size)]
    for number, limit in enumerate(limits):
        if flow[number] > 0:
            rows[limit[0]].append((number, limit[1]))
        elif flow[number] < 0:
            rows[limit[1]].append((number, limit[0]))
    return rows


def outflows(size, limits, flow):
    """Return for each vertex what flows out, less what flows in."""
    totals = [0] * size
    for limit, amount in zip(limits, flow):
        totals[limit[0]] += amount
        totals[limit[1]] -= amount
    return totals


def is_within(size, limits, start, goal, flow):
    """Return whether a list is a flow from the start to the goal within the limits."""
    if len(flow) != len(limits):
        return False
    for limit, amount in zip(limits, flow):
        if not limit[2] <= amount <= limit[3]:
            return False
    totals = outflows(size, limits, flow)
    return all([totals[vertex] == 0 for vertex in range(size) if vertex not in (start, goal)])


def pushed(limits, flow, start, path, most):
    """Return the pair of the amount, at most `most`, that can be sent along a path, and the flow with it."""
    vertex = start
    signs = []
    amount = most
    for number in path:
        u, v, low, high = limits[number]
        if vertex == u:
            amount = min(amount, high - flow[number])
            signs.append(1)
            vertex = v
        else:
            amount = min(amount, flow[number] - low)
            signs.append(-1)
            vertex = u
    after = list(flow)
    for number, sign in zip(path, signs):
        after[number] += sign * amount
    return amount, after


def filled(size, limits, start, goal, flow, most):
    """Return the pair of what can be added to the value of a flow, at most `most`, and the flow with it."""
    added = 0
    while added < most:
        path = fewest_path(room_moves(size, limits, flow), start, goal)
        if path is None:
            break
        amount, flow = pushed(limits, flow, start, path, most - added)
        added += amount
    return added, flow


def greatest_within(size, limits, start, goal):
    """Return the pair of the greatest value and a flow with it."""
    return filled(size, limits, start, goal, [0] * len(limits), all_highs(limits))


def leaving_edges(network, inside, arcs):
    """Return the ascending list of the edges that leave a side, given as a flag for each vertex."""
    return [
        number for number, (u, v, _) in enumerate(network.edges())
        if inside[u] and not inside[v] or not arcs and inside[v] and not inside[u]
    ]


def side_capacity(network, inside, arcs):
    """Return the sum of the capacities of the edges that leave a side, given as a flag for each vertex."""
    edges = network.edges()
    return sum([edges[number][2] for number in leaving_edges(network, inside, arcs)])
