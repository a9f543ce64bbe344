"""Quick forests: Steiner forests that cost less than twice the moats that grow around them."""

from trunkweb.forests.checks import MOST_QUICK_PAIRS, ends_of, need_pairs
from trunkweb.forests.forests import is_steiner_forest
from trunkweb.forests.fractions import is_within
from trunkweb.forests.growth import Growth
from trunkweb.forests.moats import are_good, parts_some, total
from trunkweb.networks.moves import fewest_path, some_moves
from trunkweb.steiner.trees import price_of


def needed(network, pairs, numbers):
    """Return those edges of a forest that lie between the two vertices of some pair."""
    rows = some_moves(network.size(), network.edges(), numbers, False)
    return sorted(set([number for u, v in pairs for number in fewest_path(rows, u, v)]))


def quick_forest(network, pairs):
    """Return the pair of a forest and moats that are a quick forest, or None if there is no Steiner forest."""
    need_pairs(network.size(), pairs, MOST_QUICK_PAIRS)
    if not is_steiner_forest(network, pairs, list(range(len(network.edges())))):
        return None
    growth = Growth(network)
    while True:
        growing = [part for part in growth.parts() if parts_some(pairs, growth.members(part))]
        if not growing:
            return needed(network, pairs, growth.paid()), growth.moats()
        span, number = growth.next_edge(growing)
        growth.grow(growing, span)
        growth.unite(number)


def check_quick_forest(network, pairs, forest, moats):
    """Return whether a list and moats are a quick forest."""
    need_pairs(network.size(), pairs, MOST_QUICK_PAIRS)
    if not is_steiner_forest(network, pairs, forest) or not are_good(network, pairs, moats):
        return False
    many = len(ends_of(pairs))
    return is_within(many * price_of(network, forest), 2 * many - 2, total(moats))
