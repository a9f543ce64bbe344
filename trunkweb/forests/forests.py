"""Steiner forests and their checks. Edges can be gone in both directions."""

from trunkweb.forests.checks import ends_of, need_pairs
from trunkweb.networks.checks import is_ascending
from trunkweb.networks.moves import blocks, prices_of, some_moves
from trunkweb.networks.told import told_numbers, told_weights
from trunkweb.steiner.tables import divisions, full_table, is_bound, table_moves
from trunkweb.steiner.trees import price_of

MOST_PAIRS = 4


def number_between(terminals, table, some):
    """Return the number of a table for some of the terminals: that at the last one for the other ones."""
    group = 0
    for index, vertex in enumerate(terminals):
        if vertex in some[:-1]:
            group += 1 << index
    return table[group][some[-1]]


def least_division(pairs, table):
    """Return the least sum of the numbers of groups, over all divisions of pairs; None if there is none."""
    terminals = ends_of(pairs)
    least = [0]
    for group in range(1, 1 << len(pairs)):
        some = [pair for index, pair in enumerate(pairs) if (group >> index) & 1 == 1]
        sums = [number_between(terminals, table, ends_of(some))]
        for part, rest in divisions(group):
            if least[part] is not None and least[rest] is not None:
                sums.append(least[part] + least[rest])
        least.append(min([number for number in sums if number is not None], default=None))
    return least[-1]


def told_forest(network, pairs):
    """Return the Steiner forest of the least price with the fewest edges, the first of several, or None."""
    need_pairs(network.size(), pairs, MOST_PAIRS)
    edges = network.edges()
    table = full_table(table_moves(network, False), told_weights(edges), ends_of(pairs))
    # Each division weighs as much as some Steiner forest or more, and one as much as the told forest.
    weight = least_division(pairs, table)
    if weight is None:
        return None
    return told_numbers(weight, len(edges))


def forest_table(network, pairs):
    """Return a table that shows the told forest, or that there is none."""
    need_pairs(network.size(), pairs, MOST_PAIRS)
    return full_table(table_moves(network, False), prices_of(network), ends_of(pairs))


def is_steiner_forest(network, pairs, forest):
    """Return whether a list of integers is a Steiner forest."""
    edges = network.edges()
    if not is_ascending(forest, len(edges)):
        return False
    labels = [0] * network.size()
    for label, block in enumerate(blocks(some_moves(network.size(), edges, forest, False))):
        for vertex in block:
            labels[vertex] = label
    return all([labels[u] == labels[v] for u, v in pairs])


def check_forest(network, pairs, forest, table):
    """Return whether a table shows that a list is a Steiner forest of the least price."""
    need_pairs(network.size(), pairs, MOST_PAIRS)
    if not is_bound(network, ends_of(pairs), table, False) or not is_steiner_forest(network, pairs, forest):
        return False
    least = least_division(pairs, table)
    return least is None or least >= price_of(network, forest)


def check_no_forest(network, pairs, table):
    """Return whether a table shows that there is no Steiner forest."""
    need_pairs(network.size(), pairs, MOST_PAIRS)
    terminals = ends_of(pairs)
    if not is_bound(network, terminals, table, False):
        return False
    return any([number_between(terminals, table, ends_of([pair])) is None for pair in pairs])
