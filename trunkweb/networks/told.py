"""Weights for which the least list of edges is the told one.

Of several lists of the least price the told one has the fewest edges, and of these it is the first
one. Of two ascending lists of the same length the first one is that which has the least of the
numbers that stand in one of them alone.
"""


def told_scale(many):
    """Return what each 1 of a price weighs, if there are this many edges."""
    return (many + 1) << many


def told_weights(edges):
    """Return a weight above 0 for each edge; no two sets of edges weigh the same."""
    many = len(edges)
    weights = []
    for number, edge in enumerate(edges):
        # The price decides ahead of the number of edges, and both ahead of the numbers themselves,
        # of which each one outweighs all later ones.
        weights.append(edge[2] * told_scale(many) + (1 << many) - (1 << (many - 1 - number)))
    return weights


def told_numbers(weight, many):
    """Return the ascending list of the edges, of this many, whose set has this weight."""
    # The lowest bits of the negative weight are just those that the weights of the edges take off.
    return [number for number in range(many) if ((-weight) >> (many - 1 - number)) & 1 == 1]
