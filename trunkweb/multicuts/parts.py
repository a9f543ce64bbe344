"""Cuts into parts (k-cuts): edges without which a network has at least k components."""

from trunkweb.errors import OutOfRange, TooMany
from trunkweb.flows.cuttrees import cut_tree
from trunkweb.multicuts.papers import is_accepted, price_between
from trunkweb.multicuts.partings import PartingJudge, are_few, best_parting, labels_behind
from trunkweb.networks.moves import blocks, some_moves
from trunkweb.programs.fractions import fraction

MOST_VERTICES = 9


def need_parts(size, k):
    """Raise OutOfRange unless a network of this size can have k parts, 2 or more."""
    if not 2 <= k <= size:
        raise OutOfRange(k)


def need_few(size):
    """Raise TooMany if a network has more vertices than partings are searched for."""
    if size > MOST_VERTICES:
        raise TooMany(size)


def weakest_triples(tree, k):
    """Return the numbers of the k - 1 triples of a cut tree with the least weights, of equal ones the first."""
    return [number for _, number in sorted([(row[2], number) for number, row in enumerate(tree)])[:k - 1]]


def quick_parts(network, k):
    """Return the pair of the price of a quick k-cut and its parting."""
    need_parts(network.size(), k)
    tree = cut_tree(network)[0]
    cut = weakest_triples(tree, k)
    left = [number for number in range(len(tree)) if number not in cut]
    labels = [0] * network.size()
    # The components stand in the order of their first vertices: so their numbers are a parting.
    for label, component in enumerate(blocks(some_moves(network.size(), tree, left, False))):
        for vertex in component:
            labels[vertex] = label
    return price_between(network.edges(), labels), labels


def parts_bound(network, k):
    """Return a fraction that no k-cut costs less than."""
    need_parts(network.size(), k)
    tree = cut_tree(network)[0]
    return fraction(k * sum([tree[number][2] for number in weakest_triples(tree, k)]), 2 * k - 2)


def least_parts(network, k):
    """Return the triple of the least price, the told parting, and a parting paper that shows it."""
    need_parts(network.size(), k)
    need_few(network.size())
    price, labels = best_parting(network, k, [], None)
    return price, labels, PartingJudge(network, k, labels, price).paper([])


def is_parting(size, k, labels):
    """Return whether a list of integers is a parting into k parts."""
    if len(labels) != size:
        return False
    for vertex, label in enumerate(labels):
        if label not in labels_behind(labels[:vertex], k):
            return False
    return not are_few(size, labels, k)


def check_parts(network, k, labels, price, paper):
    """Return whether a paper shows that a list is the told parting, and it has the price."""
    need_parts(network.size(), k)
    need_few(network.size())
    if not is_parting(network.size(), k, labels) or price_between(network.edges(), labels) != price:
        return False
    return is_accepted(PartingJudge(network, k, labels, price), [], paper)
