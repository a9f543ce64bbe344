"""Moats: sets of vertices with heights, which no answer can be cheaper than."""

from trunkweb.forests.checks import MOST_QUICK_PAIRS, need_pairs, need_prizes
from trunkweb.forests.fractions import add_to_most, is_height
from trunkweb.networks.checks import is_ascending
from trunkweb.networks.moves import flags_of
from trunkweb.programs.fractions import added


def total(moats):
    """Return the sum of all heights."""
    return added([height for _, height in moats])


def are_sets(size, moats):
    """Return whether the sets ascend and are not empty, and the heights are fractions greater than 0."""
    for vertices, height in moats:
        if not vertices or not is_ascending(vertices, size) or not is_height(height):
            return False
    return True


def are_paid(network, moats):
    """Return whether no edge has a price below the heights of the sets that part its ends."""
    size = network.size()
    loads = [[] for _ in network.edges()]
    for vertices, height in moats:
        inside = flags_of(size, vertices)
        for number, (u, v, _) in enumerate(network.edges()):
            if inside[u] != inside[v]:
                loads[number].append(height)
    return all([add_to_most(load, edge[2]) for load, edge in zip(loads, network.edges())])


def parts_some(pairs, vertices):
    """Return whether a set has exactly one vertex of some pair in it."""
    return any([(u in vertices) != (v in vertices) for u, v in pairs])


def are_good(network, pairs, moats):
    """Return whether moats are good for pairs."""
    need_pairs(network.size(), pairs, MOST_QUICK_PAIRS)
    if not are_sets(network.size(), moats) or not are_paid(network, moats):
        return False
    return all([parts_some(pairs, vertices) for vertices, _ in moats])


def is_part(one, other):
    """Return whether all vertices of a list are in another one."""
    return all([vertex in other for vertex in one])


def are_nested(moats):
    """Return whether any two sets are apart, or one is a part of the other, and none stands twice."""
    for index, (one, _) in enumerate(moats):
        for other, _ in moats[:index]:
            if one == other:
                return False
            if any([vertex in other for vertex in one]) and not is_part(one, other) and not is_part(other, one):
                return False
    return True


def are_worth(prizes, moats):
    """Return whether no set has prizes below the heights of its parts."""
    for vertices, _ in moats:
        heights = [height for part, height in moats if is_part(part, vertices)]
        if not add_to_most(heights, sum([prizes[vertex] for vertex in vertices])):
            return False
    return True


def are_good_for_prizes(network, root, prizes, moats):
    """Return whether moats are good for prizes."""
    need_prizes(network.size(), root, prizes)
    if not are_sets(network.size(), moats) or any([root in vertices for vertices, _ in moats]):
        return False
    return are_nested(moats) and are_paid(network, moats) and are_worth(prizes, moats)
