"""Spanning forests: the told one, its check, and how many there are."""

from trunkweb.networks.checks import is_ascending
from trunkweb.networks.moves import fewest_path, some_moves
from trunkweb.trees.determinants import determinant


def joined(labels, u, v):
    """Return the labels if the parts of two vertices become one.

    The label of a part is one of its vertices.
    """
    return [labels[u] if label == labels[v] else label for label in labels]


def told_forest(network):
    """Return the spanning forest of the least price, the first one of several."""
    edges = network.edges()
    labels = list(range(network.size()))
    numbers = []
    for _, number in sorted([(edge[2], number) for number, edge in enumerate(edges)]):
        u, v, _ = edges[number]
        if labels[u] != labels[v]:
            labels = joined(labels, u, v)
            numbers.append(number)
    return sorted(numbers)


def forest_price(network, numbers):
    """Return the sum of the prices of a list of edges."""
    edges = network.edges()
    return sum([edges[number][2] for number in numbers])


def is_spanning_forest(network, numbers):
    """Return whether a list of integers is a spanning forest."""
    edges = network.edges()
    if not is_ascending(numbers, len(edges)):
        return False
    labels = list(range(network.size()))
    for number in numbers:
        u, v, _ = edges[number]
        if labels[u] == labels[v]:
            return False
        labels = joined(labels, u, v)
    return all([labels[u] == labels[v] for u, v, _ in edges])


def check_forest(network, numbers):
    """Return whether a list of integers is a spanning forest of the least price."""
    if not is_spanning_forest(network, numbers):
        return False
    edges = network.edges()
    rows = some_moves(network.size(), edges, numbers, False)
    for u, v, price in edges:
        if max([edges[number][2] for number in fewest_path(rows, u, v)]) > price:
            return False
    return True


def count_spanning(size, pairs):
    """Return the number of spanning forests if each pair of vertices is an edge (Kirchhoff)."""
    labels = list(range(size))
    for u, v in pairs:
        labels = joined(labels, u, v)
    # One vertex of each part is left out: the one that gives the part its label.
    kept = [vertex for vertex in range(size) if labels[vertex] != vertex]
    degrees = [[0] * size for _ in range(size)]
    for u, v in pairs:
        degrees[u][u] += 1
        degrees[v][v] += 1
        degrees[u][v] -= 1
        degrees[v][u] -= 1
    return determinant([[degrees[row][column] for column in kept] for row in kept])


def count_forests(network):
    """Return the number of spanning forests."""
    return count_spanning(network.size(), [(u, v) for u, v, _ in network.edges()])


def count_least_forests(network):
    """Return the number of spanning forests of the least price."""
    edges = network.edges()
    labels = list(range(network.size()))
    count = 1
    for price in sorted(set([edge[2] for edge in edges])):
        # In the contracted network a part stands for its vertices, under its label.
        pairs = [
            (labels[u], labels[v]) for u, v, known in edges
            if known == price and labels[u] != labels[v]
        ]
        count *= count_spanning(network.size(), pairs)
        for u, v in pairs:
            labels = joined(labels, u, v)
    return count
