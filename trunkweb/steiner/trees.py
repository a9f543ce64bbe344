"""Steiner trees and their checks. Edges can be gone in both directions."""

from trunkweb.networks.checks import is_ascending
from trunkweb.networks.moves import prices_of, reached, some_moves
from trunkweb.networks.told import told_numbers, told_weights
from trunkweb.steiner.tables import full_table, is_bound, need_terminals, table_moves

MOST_TERMINALS = 8


def told_tree(network, terminals):
    """Return the Steiner tree of the least price with the fewest edges, the first of several, or None."""
    need_terminals(network.size(), terminals, MOST_TERMINALS)
    edges = network.edges()
    last = terminals[-1]
    if len(terminals) == 1:
        return []
    table = full_table(table_moves(network, False), told_weights(edges), terminals[:-1])
    if table[-1][last] is None:
        return None
    return told_numbers(table[-1][last], len(edges))


def tree_table(network, terminals):
    """Return a table that shows the told tree, or that there is none."""
    need_terminals(network.size(), terminals, MOST_TERMINALS)
    return full_table(table_moves(network, False), prices_of(network), terminals[:-1])


def price_of(network, numbers):
    """Return the sum of the prices of edges, each as often as it stands in the list."""
    edges = network.edges()
    return sum([edges[number][2] for number in numbers])


def is_steiner_tree(network, terminals, tree):
    """Return whether a list of integers is a Steiner tree."""
    edges = network.edges()
    if not is_ascending(tree, len(edges)):
        return False
    found = reached(some_moves(network.size(), edges, tree, False), terminals[0])
    return all([found[vertex] for vertex in terminals])


def check_tree(network, terminals, tree, table):
    """Return whether a table shows that a list is a Steiner tree of the least price."""
    need_terminals(network.size(), terminals, MOST_TERMINALS)
    if not is_bound(network, terminals[:-1], table, False) or not is_steiner_tree(network, terminals, tree):
        return False
    if len(terminals) == 1:
        return price_of(network, tree) == 0
    return table[-1][terminals[-1]] == price_of(network, tree)


def check_no_tree(network, terminals, table):
    """Return whether a table shows that there is no Steiner tree."""
    need_terminals(network.size(), terminals, MOST_TERMINALS)
    if len(terminals) < 2 or not is_bound(network, terminals[:-1], table, False):
        return False
    return table[-1][terminals[-1]] is None
