"""Arborescences, and packings that show that they are least. Edges are arcs."""

from trunkweb.networks.checks import is_ascending, need_vertex
from trunkweb.networks.moves import all_moves, flags_of, listed, prices_of, reached, some_moves, turned
from trunkweb.networks.told import told_numbers, told_weights


def cut_off(network, root):
    """Return the ascending list of the vertices that cannot be reached from the root."""
    need_vertex(network.size(), root)
    found = reached(all_moves(network, True), root)
    return [vertex for vertex in range(network.size()) if not found[vertex]]


def closed_set(rows, root):
    """Return the flags of a smallest set without the root that no move enters, or None."""
    missed = [vertex for vertex, flag in enumerate(reached(rows, root)) if not flag]
    if not missed:
        return None
    back = turned(rows)
    known = listed(reached(back, missed[0]))
    return min([reached(back, vertex) for vertex in known], key=sum)


def grown_pairs(network, weights, root):
    """Return a fair packing of the greatest sum, if all vertices can be reached from the root (Fulkerson).

    As long as some vertex cannot be reached along arcs of which nothing is left, a smallest set that
    none of these enters is given the least that is left of an arc that enters it.
    """
    size = network.size()
    edges = network.edges()
    left = list(weights)
    pairs = []
    while True:
        spent = [number for number, amount in enumerate(left) if amount == 0]
        inside = closed_set(some_moves(size, edges, spent, True), root)
        if inside is None:
            return pairs
        entering = [number for number, (u, v, _) in enumerate(edges) if inside[v] and not inside[u]]
        value = min([left[number] for number in entering])
        for number in entering:
            left[number] -= value
        pairs.append((listed(inside), value))


def told_arborescence(network, root):
    """Return the arborescence of the least price, the first one of several, or None."""
    if cut_off(network, root):
        return None
    edges = network.edges()
    # The sum of the packing is the weight of the least arborescence, which tells its arcs.
    pairs = grown_pairs(network, told_weights(edges), root)
    return told_numbers(sum([value for _, value in pairs]), len(edges))


def packing(network, root):
    """Return a packing that shows the told arborescence, or None if there is none."""
    if cut_off(network, root):
        return None
    return grown_pairs(network, prices_of(network), root)


def is_arborescence(network, root, numbers):
    """Return whether a list of integers is an arborescence with the root."""
    size = network.size()
    edges = network.edges()
    if not is_ascending(numbers, len(edges)):
        return False
    ends = [edges[number][1] for number in numbers]
    if sorted(ends) != [vertex for vertex in range(size) if vertex != root]:
        return False
    return all(reached(some_moves(size, edges, numbers, True), root))


def is_fair(network, root, pairs):
    """Return whether a list of pairs is a fair packing for a root."""
    size = network.size()
    left = prices_of(network)
    for vertices, value in pairs:
        if not vertices or not is_ascending(vertices, size) or root in vertices or value < 0:
            return False
        inside = flags_of(size, vertices)
        for number, (u, v, _) in enumerate(network.edges()):
            if inside[v] and not inside[u]:
                left[number] -= value
    return all([amount >= 0 for amount in left])


def check_arborescence(network, root, numbers, pairs):
    """Return whether a packing shows that a list is an arborescence of the least price."""
    need_vertex(network.size(), root)
    if not is_arborescence(network, root, numbers) or not is_fair(network, root, pairs):
        return False
    edges = network.edges()
    return sum([edges[number][2] for number in numbers]) == sum([value for _, value in pairs])
