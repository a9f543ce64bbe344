"""Least prices of paths, the told path, and its check."""

from trunkweb.networks.checks import need_vertex
from trunkweb.networks.moves import all_moves, blocks, is_settled, path_end, prices_of, spread, turned


def values_from(rows, weights, vertex):
    """Return the least weights of the ways from a vertex to all of them."""
    firsts = [None] * len(rows)
    firsts[vertex] = 0
    return spread(rows, weights, firsts)


def least_prices(network, start, arcs):
    """Return the list of the least prices of the paths from the start, None where there is none."""
    need_vertex(network.size(), start)
    return values_from(all_moves(network, arcs), prices_of(network), start)


def told_path(network, start, goal, arcs):
    """Return the path of the least price with the fewest edges, the first of several, or None."""
    need_vertex(network.size(), start)
    need_vertex(network.size(), goal)
    rows = all_moves(network, arcs)
    # A shortest path has fewer edges than there are vertices: so the price decides, then their number.
    weights = [price * network.size() + 1 for price in prices_of(network)]
    left = values_from(turned(rows), weights, goal)
    if left[start] is None:
        return None
    path = []
    vertex = start
    while vertex != goal:
        number, vertex = min([
            (edge, other) for edge, other in rows[vertex]
            if left[other] is not None and left[other] + weights[edge] == left[vertex]
        ])
        path.append(number)
    return path


def check_path(network, start, goal, path, numbers, arcs):
    """Return whether the numbers show that the list is a path of the least price."""
    need_vertex(network.size(), start)
    need_vertex(network.size(), goal)
    if len(numbers) != network.size() or numbers[start] is None or numbers[start] > 0:
        return False
    rows = all_moves(network, arcs)
    prices = prices_of(network)
    if not is_settled(rows, prices, numbers) or path_end(rows, start, path) != goal:
        return False
    return numbers[goal] == sum([prices[number] for number in path])


def distances(network):
    """Return for each vertex the list of its distances to all of them."""
    rows = all_moves(network, False)
    prices = prices_of(network)
    return [values_from(rows, prices, vertex) for vertex in range(network.size())]


def components(network):
    """Return the list of the components, each ascending, in the order of their first vertices."""
    return blocks(all_moves(network, False))
