"""Choices with prizes: edges that a root is connected by, and prizes of the vertices that are left out."""

from trunkweb.errors import BadEdge, TooMany
from trunkweb.forests.checks import need_prizes
from trunkweb.forests.fractions import is_within
from trunkweb.forests.growth import Growth
from trunkweb.forests.moats import are_good_for_prizes, total
from trunkweb.networks.checks import is_ascending
from trunkweb.networks.moves import flags_of, prices_of, reached, some_moves
from trunkweb.networks.told import told_numbers, told_scale, told_weights
from trunkweb.programs.fractions import is_less, minus
from trunkweb.steiner.tables import full_table, is_bound, table_moves
from trunkweb.steiner.trees import price_of

MOST_GOALS = 7


def need_goals(network, root, prizes):
    """Raise an error unless root and prizes are as they must be; return the ascending list of the goals."""
    need_prizes(network.size(), root, prizes)
    goals = [vertex for vertex, prize in enumerate(prizes) if prize > 0 and vertex != root]
    if len(goals) > MOST_GOALS:
        raise TooMany(len(goals))
    return goals


def is_choice(network, choice):
    """Return whether a list of integers is a choice."""
    return is_ascending(choice, len(network.edges()))


def cost_of(network, root, prizes, choice):
    """Return the cost of a list that is a choice."""
    near = reached(some_moves(network.size(), network.edges(), choice, False), root)
    return price_of(network, choice) + sum([prize for prize, flag in zip(prizes, near) if not flag])


def cost(network, root, prizes, choice):
    """Return the cost of a choice."""
    need_prizes(network.size(), root, prizes)
    last = -1
    for index, number in enumerate(choice):
        if not last < number < len(network.edges()):
            raise BadEdge(index)
        last = number
    return cost_of(network, root, prizes, choice)


def least_sum(table, root, goals, prizes, scale):
    """Return the least number of a set of goals at the root with the prizes of all other ones.

    `scale` is what the table has for each 1 of a price.
    """
    sums = []
    for group in range(len(table)):
        number = 0 if group == 0 else table[group][root]
        if number is not None:
            others = [prizes[goal] for index, goal in enumerate(goals) if (group >> index) & 1 == 0]
            sums.append(number + scale * sum(others))
    return min(sums)


def told_choice(network, root, prizes):
    """Return the choice of the least cost with the fewest edges, the first one of several."""
    goals = need_goals(network, root, prizes)
    edges = network.edges()
    table = full_table(table_moves(network, False), told_weights(edges), goals)
    # The prizes do not touch the lowest bits of the weight, which tell the edges.
    return told_numbers(least_sum(table, root, goals, prizes, told_scale(len(edges))), len(edges))


def choice_table(network, root, prizes):
    """Return a table that shows the told choice."""
    goals = need_goals(network, root, prizes)
    return full_table(table_moves(network, False), prices_of(network), goals)


def check_choice(network, root, prizes, choice, table):
    """Return whether a table shows that a list is a choice of the least cost."""
    goals = need_goals(network, root, prizes)
    if not is_choice(network, choice) or not is_bound(network, goals, table, False):
        return False
    return least_sum(table, root, goals, prizes, 1) >= cost_of(network, root, prizes, choice)


def first_stop(growth, prizes, growing):
    """Return the pair (span of growth, part) of the growing part whose heights first reach its prizes."""
    best = None
    for part in growing:
        worth = sum([prizes[vertex] for vertex in growth.members(part)])
        span = minus((worth, 1), growth.spent(part))
        if best is None or is_less(span, best[0]):
            best = (span, part)
    return best


def grown(network, root, prizes):
    """Return the pair of a growth at its end, and the list of the sets of vertices that stopped."""
    growth = Growth(network)
    stopped = []
    while True:
        growing = [
            part for part in growth.parts()
            if part not in stopped and root not in growth.members(part)
        ]
        if not growing:
            return growth, [growth.members(part) for part in stopped]
        stop, part = first_stop(growth, prizes, growing)
        edge = growth.next_edge(growing)
        if edge is None or not is_less(edge[0], stop):
            growth.grow(growing, stop)
            stopped.append(part)
        else:
            growth.grow(growing, edge[0])
            growth.unite(edge[1])


def pruned(network, root, numbers, stopped):
    """Return the edges of a forest at the root, without sets that stopped and hang on one edge."""
    edges = network.edges()
    near = reached(some_moves(network.size(), edges, numbers, False), root)
    kept = [number for number in numbers if near[edges[number][0]]]
    changed = True
    while changed:
        changed = False
        for members in stopped:
            inside = flags_of(network.size(), members)
            leaving = [number for number in kept if inside[edges[number][0]] != inside[edges[number][1]]]
            if len(leaving) == 1:
                kept = [number for number in kept if not inside[edges[number][0]] and not inside[edges[number][1]]]
                changed = True
    return kept


def quick_choice(network, root, prizes):
    """Return the pair of a choice and moats that are a quick choice."""
    need_prizes(network.size(), root, prizes)
    growth, stopped = grown(network, root, prizes)
    return pruned(network, root, growth.paid(), stopped), growth.moats()


def check_quick_choice(network, root, prizes, choice, moats):
    """Return whether a list and moats are a quick choice."""
    need_prizes(network.size(), root, prizes)
    if not is_choice(network, choice) or not are_good_for_prizes(network, root, prizes, moats):
        return False
    size = network.size()
    # With one vertex there are no edges and no good moats: both sides of this are 0 then.
    return is_within((size - 1) * cost_of(network, root, prizes, choice), 2 * size - 3, total(moats))
