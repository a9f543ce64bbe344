"""Tables of least prices for sets of terminals (Dreyfus and Wagner).

A set of terminals is an integer whose bits say which ones are in it. Rows of moves lead from a vertex
at which terminals are joined to one at which they are joined, too, for the price of the edge.
"""

from trunkweb.errors import BadTerminal, OutOfRange
from trunkweb.networks.moves import all_moves, is_settled, prices_of, spread, turned


def need_terminals(size, terminals, most):
    """Raise an error unless these are 1 to `most` different vertices."""
    if not 1 <= len(terminals) <= most:
        raise OutOfRange(len(terminals))
    for index, vertex in enumerate(terminals):
        if not 0 <= vertex < size or vertex in terminals[:index]:
            raise BadTerminal(index)


def table_moves(network, arcs):
    """Return the moves of a table. Arcs lead to the terminals, so a table goes back along them."""
    return turned(all_moves(network, arcs))


def divisions(group):
    """Return the pairs of two sets, not empty, into which a set can be divided."""
    found = []
    part = (group - 1) & group
    while part > group - part:
        found.append((part, group - part))
        part = (part - 1) & group
    return found


def least_sums(table, group, size):
    """Return for each vertex the least sum of its numbers for two sets into which a set is divided."""
    sums = [None] * size
    for part, rest in divisions(group):
        for vertex, (one, two) in enumerate(zip(table[part], table[rest])):
            if one is not None and two is not None:
                if sums[vertex] is None or one + two < sums[vertex]:
                    sums[vertex] = one + two
    return sums


def full_table(rows, weights, terminals):
    """Return the table of the least weights, from smaller sets to greater ones."""
    size = len(rows)
    table = [[]]
    for group in range(1, 1 << len(terminals)):
        firsts = least_sums(table, group, size)
        for index, vertex in enumerate(terminals):
            if group == 1 << index:
                firsts[vertex] = 0
        table.append(spread(rows, weights, firsts))
    return table


def has_form(size, terminals, table):
    """Return whether a list of lists has the form of a table."""
    if len(table) != 1 << len(terminals) or table[0]:
        return False
    return all([len(values) == size for values in table[1:]])


def is_summed(table, group):
    """Return whether no division of a set gives a vertex a lesser number than it has."""
    for part, rest in divisions(group):
        for one, two, both in zip(table[part], table[rest], table[group]):
            if one is not None and two is not None:
                if both is None or both > one + two:
                    return False
    return True


def is_bound(network, terminals, table, arcs):
    """Return whether a list of lists is a table that is a bound from below."""
    if not has_form(network.size(), terminals, table):
        return False
    for index, vertex in enumerate(terminals):
        number = table[1 << index][vertex]
        if number is None or number > 0:
            return False
    rows = table_moves(network, arcs)
    prices = prices_of(network)
    for group in range(1, len(table)):
        if not is_settled(rows, prices, table[group]) or not is_summed(table, group):
            return False
    return True
