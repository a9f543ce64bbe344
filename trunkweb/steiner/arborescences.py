"""Steiner arborescences and their checks. Edges are arcs."""

from trunkweb.networks.checks import is_ascending, need_vertex
from trunkweb.networks.moves import prices_of, reached, some_moves
from trunkweb.networks.told import told_numbers, told_weights
from trunkweb.steiner.tables import full_table, is_bound, need_terminals, table_moves

MOST_TERMINALS = 7


def need_root(network, root, terminals):
    """Raise an error unless terminals and a root are as they must be."""
    need_terminals(network.size(), terminals, MOST_TERMINALS)
    need_vertex(network.size(), root)


def told_arborescence(network, root, terminals):
    """Return the Steiner arborescence of the least price with the fewest arcs, the first of several, or None."""
    need_root(network, root, terminals)
    edges = network.edges()
    weight = full_table(table_moves(network, True), told_weights(edges), terminals)[-1][root]
    if weight is None:
        return None
    return told_numbers(weight, len(edges))


def arborescence_table(network, root, terminals):
    """Return a table that shows the told arborescence, or that there is none."""
    need_root(network, root, terminals)
    return full_table(table_moves(network, True), prices_of(network), terminals)


def is_steiner_arborescence(network, root, terminals, arcs):
    """Return whether a list of integers is a Steiner arborescence."""
    edges = network.edges()
    if not is_ascending(arcs, len(edges)):
        return False
    found = reached(some_moves(network.size(), edges, arcs, True), root)
    return all([found[vertex] for vertex in terminals])


def check_arborescence(network, root, terminals, arcs, table):
    """Return whether a table shows that a list is a Steiner arborescence of the least price."""
    need_root(network, root, terminals)
    if not is_bound(network, terminals, table, True):
        return False
    if not is_steiner_arborescence(network, root, terminals, arcs):
        return False
    edges = network.edges()
    return table[-1][root] == sum([edges[number][2] for number in arcs])


def check_no_arborescence(network, root, terminals, table):
    """Return whether a table shows that there is no Steiner arborescence."""
    need_root(network, root, terminals)
    return is_bound(network, terminals, table, True) and table[-1][root] is None
