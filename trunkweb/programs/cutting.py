"""Cut programs: the least values of ways such that all sides of terminals are entered."""

from trunkweb.errors import BadTerminal, TooMany
from trunkweb.flows.residual import filled, room_moves
from trunkweb.networks.checks import is_ascending, need_vertex
from trunkweb.networks.moves import all_moves, flags_of, listed, reached, turned
from trunkweb.programs.fractions import added, fraction, is_less, minus, scaled
from trunkweb.programs.program import dot
from trunkweb.programs.tableau import Tableau

MOST_WAYS = 40


def ways_of(network, arcs):
    """Return the ways as triples (u, v, price)."""
    ways = []
    for u, v, price in network.edges():
        ways.append((u, v, price))
        if not arcs:
            ways.append((v, u, price))
    return ways


def need_order(network, arcs, root, terminals):
    """Raise an error unless a root, terminals and the number of ways are as they must be."""
    need_vertex(network.size(), root)
    last = -1
    for index, vertex in enumerate(terminals):
        if not last < vertex < network.size() or vertex == root:
            raise BadTerminal(index)
        last = vertex
    many = len(ways_of(network, arcs))
    if many > MOST_WAYS:
        raise TooMany(many)


def priced(ways, values):
    """Return the value of values: the sum of the prices times them."""
    numerators, scale = scaled(values)
    return fraction(dot([way[2] for way in ways], numerators), scale)


def enters(way, inside):
    """Return whether a way enters a side, given as a flag for each vertex."""
    return inside[way[1]] and not inside[way[0]]


def unit_flow(size, ways, values, root, terminal):
    """Return the pair of a flow of 1 to a terminal within values and a side that they enter by less than 1.

    One of the two is None: there is always just one of them.
    """
    numerators, scale = scaled(values)
    limits = [(way[0], way[1], 0, most) for way, most in zip(ways, numerators)]
    value, flow = filled(size, limits, root, terminal, [0] * len(ways), scale)
    if value == scale:
        return [fraction(amount, scale) for amount in flow], None
    # What has room to reach the terminal is the smallest side that the values enter by least.
    return None, reached(turned(room_moves(size, limits, flow)), terminal)


def missed_sides(size, ways, values, root, terminals):
    """Return different sides that values enter by less than 1, one for each terminal that has such."""
    found = []
    for terminal in terminals:
        side = unit_flow(size, ways, values, root, terminal)[1]
        if side is not None and side not in found:
            found.append(side)
    return found


def least_values(size, ways, root, terminals):
    """Return the pair of values of the least value, and of the list of pairs (side, weight) that show it.

    Rows are put in for sides only as they are missed, until none is.
    """
    # What costs nothing may be used in full: so only the other ways need variables.
    costly = [number for number, way in enumerate(ways) if way[2] > 0]
    tableau = Tableau([[ways[number][2] for number in costly]])
    sides = []
    while True:
        values = [(1, 1)] * len(ways)
        for number, value in zip(costly, tableau.solution()):
            values[number] = value
        missed = missed_sides(size, ways, values, root, terminals)
        if not missed:
            rows = list(zip(sides, tableau.goal_weights()))
            return values, [(listed(side), weight) for side, weight in rows if weight[0] > 0]
        for side in missed:
            tableau.add_row([-1 if enters(ways[number], side) else 0 for number in costly], -1, False)
        sides.extend(missed)
        tableau.fulfil()


def cut_bound(network, arcs, root, terminals):
    """Return the tuple (bound, values, cuts, flows), or None if some terminal cannot be reached."""
    need_order(network, arcs, root, terminals)
    found = reached(all_moves(network, arcs), root)
    if not all([found[terminal] for terminal in terminals]):
        return None
    size = network.size()
    ways = ways_of(network, arcs)
    values, cuts = least_values(size, ways, root, terminals)
    flows = [unit_flow(size, ways, values, root, terminal)[0] for terminal in terminals]
    return priced(ways, values), values, cuts, flows


def is_unit_flow(size, ways, values, root, terminal, flow):
    """Return whether a list of fractions is a flow of 1 within values from the root to a terminal."""
    if len(flow) != len(ways):
        return False
    excess = [(0, 1)] * size
    for (u, v, _), part, most in zip(ways, flow, values):
        if part[0] < 0 or is_less(most, part):
            return False
        excess[u] = minus(excess[u], part)
        excess[v] = added([excess[v], part])
    wanted = [(0, 1)] * size
    wanted[root] = (-1, 1)
    wanted[terminal] = (1, 1)
    return excess == wanted


def is_side(size, root, terminals, side):
    """Return whether a list of integers is a side."""
    if not is_ascending(side, size) or root in side:
        return False
    return any([terminal in side for terminal in terminals])


def are_weights(size, ways, root, terminals, cuts):
    """Return whether weights of sides are multipliers without a load above the price of a way."""
    loads = [[] for _ in ways]
    for side, weight in cuts:
        if not is_side(size, root, terminals, side) or weight[0] < 0:
            return False
        inside = flags_of(size, side)
        for number, way in enumerate(ways):
            if enters(way, inside):
                loads[number].append(weight)
    return not any([is_less((way[2], 1), added(load)) for way, load in zip(ways, loads)])


def check_cut_bound(network, arcs, root, terminals, bound, certificate):
    """Return whether a certificate shows that a fraction is the cut bound."""
    need_order(network, arcs, root, terminals)
    size = network.size()
    ways = ways_of(network, arcs)
    values, cuts, flows = certificate
    if len(values) != len(ways) or len(flows) != len(terminals):
        return False
    if any([value[0] < 0 for value in values]) or not are_weights(size, ways, root, terminals, cuts):
        return False
    for terminal, flow in zip(terminals, flows):
        if not is_unit_flow(size, ways, values, root, terminal, flow):
            return False
    return added([weight for _, weight in cuts]) == bound and priced(ways, values) == bound
