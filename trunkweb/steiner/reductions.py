"""Reductions: networks that are made smaller, while Steiner trees keep their least price."""

from heapq import heappop, heappush

from trunkweb.errors import BadRow
from trunkweb.steiner.rest import Rest
from trunkweb.steiner.tables import need_terminals
from trunkweb.steiner.trees import MOST_TERMINALS


def short_walk(rest, number):
    """Return a walk that shows that no tree needs an edge, or None.

    For each vertex the least price is sought that a way there has behind its last terminal; no piece
    of it is dearer than the edge.
    """
    start, goal, most = rest.edge(number)
    rows = rest.moves_without(number)
    pieces = {start: 0}
    walks = {start: []}
    queue = [(0, start)]
    while queue and goal not in walks:
        piece, vertex = heappop(queue)
        if piece == pieces[vertex]:
            for step, other in rows[vertex]:
                longer = piece + rest.edge(step)[2]
                # At a terminal a new piece begins.
                after = 0 if rest.is_terminal(other) else longer
                if longer <= most and (other not in pieces or after < pieces[other]):
                    pieces[other] = after
                    walks[other] = walks[vertex] + [step]
                    heappush(queue, (after, other))
    return walks.get(goal)


def longer_rows(rest, numbers):
    """Apply a row "longer" for each of some edges that no tree needs; return these rows."""
    rows = []
    for number in numbers:
        if rest.has(number):
            walk = short_walk(rest, number)
            if walk is not None:
                rest.apply(("longer", number, walk))
                rows.append(("longer", number, walk))
    return rows


def vertex_rows(rest, size):
    """Apply a row for each vertex that has a reason for one; return these rows."""
    rows = []
    for vertex in range(size):
        for row in (("leaf", vertex), ("series", vertex)):
            if rest.apply(row):
                rows.append(row)
    return rows


def reduction(network, terminals):
    """Return the rows of a full reduction."""
    need_terminals(network.size(), terminals, MOST_TERMINALS)
    rest = Rest(network, terminals)
    rows = []
    tested = 0
    while True:
        # Each row leaves the walks that there were, or fewer: only new edges must be tested.
        fresh = list(range(tested, rest.many()))
        tested = rest.many()
        rows.extend(longer_rows(rest, fresh))
        found = vertex_rows(rest, network.size())
        if not found:
            return rows
        rows.extend(found)


def applied(network, terminals, rows):
    """Return the pair of what the rows leave, up to the first one without a reason, and its index or None."""
    rest = Rest(network, terminals)
    for index, row in enumerate(rows):
        if not rest.apply(row):
            return rest, index
    return rest, None


def check_reduction(network, terminals, rows):
    """Return whether all reasons hold."""
    need_terminals(network.size(), terminals, MOST_TERMINALS)
    return applied(network, terminals, rows)[1] is None


def rest_of(network, terminals, rows):
    """Return the pair of the network that is left, and the list of what its edges stand for."""
    need_terminals(network.size(), terminals, MOST_TERMINALS)
    rest, index = applied(network, terminals, rows)
    if index is not None:
        raise BadRow(index)
    return rest.outcome()


def lead_back(origins, numbers):
    """Return the edges for which edges of a rest stand, ascending, each once."""
    return sorted(set([edge for number in numbers for edge in origins[number]]))
