"""Small checks that the modules of forests share."""

from trunkweb.errors import BadPair, BadPrize, OutOfRange
from trunkweb.networks.checks import need_vertex
from trunkweb.networks.network import are_ends, is_price

MOST_QUICK_PAIRS = 20


def need_pairs(size, pairs, most):
    """Raise an error unless these are 1 to `most` pairs of two different vertices."""
    if not 1 <= len(pairs) <= most:
        raise OutOfRange(len(pairs))
    for index, (u, v) in enumerate(pairs):
        if not are_ends(size, u, v):
            raise BadPair(index)


def need_prizes(size, root, prizes):
    """Raise an error unless the root is a vertex, and there is a prize for each vertex."""
    need_vertex(size, root)
    if len(prizes) != size:
        raise BadPrize(len(prizes))
    for index, prize in enumerate(prizes):
        if not is_price(prize):
            raise BadPrize(index)


def ends_of(pairs):
    """Return the ascending list of the vertices of pairs, each once."""
    return sorted(set([vertex for pair in pairs for vertex in pair]))
