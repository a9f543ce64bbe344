"""Multiway cuts: edges without which no two terminals are connected."""

from trunkweb.errors import TooMany
from trunkweb.multicuts.groups import need_terminals, value_of_group
from trunkweb.multicuts.isolating import isolating_cut
from trunkweb.multicuts.labellings import LabellingJudge, told_labelling
from trunkweb.multicuts.papers import is_accepted, price_between
from trunkweb.programs.fractions import fraction

MOST_VERTICES = 12


def need_few(size):
    """Raise TooMany if a network has more vertices than labellings are searched for."""
    if size > MOST_VERTICES:
        raise TooMany(size)


def price_of(network, labels):
    """Return the sum of the prices of the edges whose ends have different labels."""
    return price_between(network.edges(), labels)


def all_cuts(network, terminals):
    """Return the list of the isolating cuts of all terminals, triples (capacity, flow, side)."""
    return [isolating_cut(network, terminals, number) for number in range(len(terminals))]


def quick_multiway(network, terminals):
    """Return the triple of the price of the quick multiway cut, its labelling, and flows that show the bound."""
    need_terminals(network.size(), terminals)
    cuts = all_cuts(network, terminals)
    # Of equal capacities the first one counts, as `max` tells the first of several.
    dearest = max(list(range(len(cuts))), key=lambda number: cuts[number][0])
    labels = [dearest] * network.size()
    for number, cut in enumerate(cuts):
        for vertex in cut[2]:
            labels[vertex] = number
    return price_of(network, labels), labels, [flow for _, flow, _ in cuts]


def multiway_bound(network, terminals):
    """Return half of the sum of the capacities of the near isolating sides."""
    need_terminals(network.size(), terminals)
    return fraction(sum([capacity for capacity, _, _ in all_cuts(network, terminals)]), 2)


def check_bound(network, terminals, flows, bound):
    """Return whether flows show that no multiway cut costs less than a fraction."""
    need_terminals(network.size(), terminals)
    if len(flows) != len(terminals):
        return False
    groups = [[vertex] for vertex in terminals]
    values = [value_of_group(network, groups, number, flow) for number, flow in enumerate(flows)]
    return None not in values and fraction(sum(values), 2) == bound


def least_multiway(network, terminals):
    """Return the triple of the least price, the told labelling, and a case paper that shows it."""
    need_terminals(network.size(), terminals)
    need_few(network.size())
    labels = told_labelling(network, terminals)
    price = price_of(network, labels)
    nothing = [0] * len(network.edges())
    paper = LabellingJudge(network, terminals, labels, price).paper_from([], [nothing for _ in terminals])
    return price, labels, paper


def is_labelling(size, terminals, labels):
    """Return whether a list of integers is a labelling."""
    if len(labels) != size or not all([0 <= label < len(terminals) for label in labels]):
        return False
    return [labels[vertex] for vertex in terminals] == list(range(len(terminals)))


def check_multiway(network, terminals, labels, price, paper):
    """Return whether a paper shows that a list is the told labelling, and it has the price."""
    need_terminals(network.size(), terminals)
    need_few(network.size())
    if not is_labelling(network.size(), terminals, labels) or price_of(network, labels) != price:
        return False
    return is_accepted(LabellingJudge(network, terminals, labels, price), [], paper)
