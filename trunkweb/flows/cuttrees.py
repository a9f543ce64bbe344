"""Cut trees: trees that tell a least cut for any two vertices. Edges can be gone in both directions."""

from trunkweb.errors import BadEdge, OutOfRange
from trunkweb.flows.flow import greatest_flow, is_flow, out_of
from trunkweb.flows.residual import side_capacity
from trunkweb.networks.checks import need_two
from trunkweb.networks.moves import fewest_path, flags_of, listed, reached, some_moves
from trunkweb.networks.network import are_ends


def cut_tree(network):
    """Return the pair of a cut tree and the list of the flows that show it.

    Every vertex other than 0 has a triple, with a parent as its second end; at first 0 is the parent
    of all. What is on the side of a vertex then moves below it (Gusfield).
    """
    size = network.size()
    parents = [0] * size
    weights = [0] * size
    for vertex in range(1, size):
        parent = parents[vertex]
        value, _, side = greatest_flow(network, vertex, parent, False)
        for other in side:
            if other != vertex and parents[other] == parent:
                parents[other] = vertex
        weights[vertex] = value
        if parents[parent] in side:
            parents[vertex] = parents[parent]
            parents[parent] = vertex
            weights[vertex] = weights[parent]
            weights[parent] = value
    tree = [(vertex, parents[vertex], weights[vertex]) for vertex in range(1, size)]
    return tree, [greatest_flow(network, u, v, False)[1] for u, v, _ in tree]


def tree_moves(size, tree, without):
    """Return the moves along the triples of a tree, without the one with a number."""
    numbers = [number for number in range(len(tree)) if number != without]
    return some_moves(size, tree, numbers, False)


def is_tree(size, tree):
    """Return whether triples are a tree over all vertices."""
    if len(tree) != size - 1:
        return False
    for u, v, _ in tree:
        if not are_ends(size, u, v):
            return False
    return all(reached(tree_moves(size, tree, None), 0))


def check_tree(network, tree, flows):
    """Return whether flows show that triples are a cut tree."""
    size = network.size()
    if not is_tree(size, tree) or len(flows) != len(tree):
        return False
    for number, ((u, v, weight), flow) in enumerate(zip(tree, flows)):
        inside = reached(tree_moves(size, tree, number), u)
        if side_capacity(network, inside, False) != weight:
            return False
        if not is_flow(network, u, v, flow, False) or out_of(network, u, flow, False) != weight:
            return False
    return True


def tree_side(size, tree, number):
    """Return the tree side of the first vertex of the triple with this number."""
    if not 0 <= number < len(tree):
        raise BadEdge(number)
    return listed(reached(tree_moves(size, tree, number), tree[number][0]))


def least_between(size, tree, one, two):
    """Return the least weight on the way between two vertices, and the tree side of the first one there."""
    need_two(size, one, two)
    way = fewest_path(tree_moves(size, tree, None), one, two)
    # Of equal weights the first one on the way counts, as `min` tells the first of several.
    number = min(way, key=lambda known: tree[known][2])
    return tree[number][2], listed(reached(tree_moves(size, tree, number), one))


def least_cut(network):
    """Return the least capacity of a side for any two vertices, and such a side without the vertex 0."""
    size = network.size()
    if size == 1:
        raise OutOfRange(size)
    tree = cut_tree(network)[0]
    number = min(list(range(len(tree))), key=lambda known: tree[known][2])
    side = flags_of(size, tree_side(size, tree, number))
    return tree[number][2], [vertex for vertex in range(size) if side[vertex] != side[0]]
