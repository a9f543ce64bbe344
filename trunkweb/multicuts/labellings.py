"""The told labelling of terminals, and case papers that show it."""

from trunkweb.multicuts.groups import greatest_of_group, value_of_group
from trunkweb.multicuts.papers import is_enough, price_between
from trunkweb.programs.fractions import ceiling, fraction


class LabellingJudge:
    """Says what papers show of labellings: that a list is the told one, and has a price."""

    def __init__(self, network, terminals, told, price):
        self._network = network
        self._terminals = list(terminals)
        self._told = told
        self._price = price

    def next_labels(self, first):
        """Return the labels that the next vertex may have, none if all vertices have labels."""
        if len(first) == self._network.size():
            return []
        if len(first) in self._terminals:
            return [self._terminals.index(len(first))]
        return list(range(len(self._terminals)))

    def groups(self, first):
        """Return for each label the list of its terminal and the first vertices with this label."""
        groups = [[vertex] for vertex in self._terminals]
        for vertex, label in enumerate(first):
            if vertex not in self._terminals:
                groups[label].append(vertex)
        return groups

    def half_of(self, first, flows):
        """Return the number that group flows show for the first labels, or None if some list is none."""
        groups = self.groups(first)
        if len(flows) != len(groups):
            return None
        values = [value_of_group(self._network, groups, number, flow) for number, flow in enumerate(flows)]
        return None if None in values else ceiling(fraction(sum(values), 2))

    def is_shown(self, first, paper):
        """Return whether a paper without cases is accepted for the labels of the first vertices."""
        number = None
        if paper[0] == "bound":
            number = self.half_of(first, paper[1])
        elif paper[0] == "end" and len(first) == self._network.size():
            number = price_between(self._network.edges(), first)
        return number is not None and is_enough(first, number, self._told, self._price)

    def ending(self, first):
        """Return the paper that is accepted for the first labels if all other vertices are terminals."""
        labels = self.next_labels(first)
        if not labels:
            return ("end",)
        return ("cases", [self.ending(first + labels)])

    def paper_from(self, first, flows):
        """Return a paper that is accepted for the first labels, made from group flows for fewer of them."""
        if all([vertex in self._terminals for vertex in range(len(first), self._network.size())]):
            # Here no flow is needed: so such papers stay small.
            return self.ending(first)
        groups = self.groups(first)
        # A group flow stays one if groups have more vertices: so each one is made from the last one.
        greatest = [greatest_of_group(self._network, groups, number, flow) for number, flow in enumerate(flows)]
        number = ceiling(fraction(sum([value for value, _ in greatest]), 2))
        after = [flow for _, flow in greatest]
        if is_enough(first, number, self._told, self._price):
            return ("bound", [list(flow) for flow in after])
        return ("cases", [self.paper_from(first + [label], after) for label in self.next_labels(first)])


def neighbours_of(network):
    """Return for each vertex a list of pairs (other, price), one for each edge at the vertex."""
    rows = [[] for _ in range(network.size())]
    for u, v, price in network.edges():
        rows[u].append((v, price))
        rows[v].append((u, price))
    return rows


class LabellingSearch:
    """The search for the told labelling."""

    def __init__(self, network, terminals):
        self._own = [None] * network.size()
        for label, vertex in enumerate(terminals):
            self._own[vertex] = label
        self._many = len(terminals)
        self._rows = neighbours_of(network)

    def step(self, first, label):
        """Return what the next vertex costs if it has a label: its edges to terminals and the first vertices."""
        vertex = len(first)
        spent = 0
        for other, price in self._rows[vertex]:
            known = self._own[other]
            if known is None and other < vertex:
                known = first[other]
            if known is not None and known != label:
                spent += price
        return spent

    def best(self, first, spent, known):
        """Return the best pair of a price and a labelling: `known`, or one with these first labels.

        `known` is None, or comes ahead of all with these first labels. Edges between terminals are left
        out of the prices, as they always cost.
        """
        if known is not None and spent >= known[0]:
            return known
        if len(first) == len(self._own):
            return (spent, first)
        own = self._own[len(first)]
        if own is not None:
            # Each edge to a vertex without a label of its own is counted with that vertex.
            return self.best(first + [own], spent, known)
        for label in range(self._many):
            known = self.best(first + [label], spent + self.step(first, label), known)
        return known


def told_labelling(network, terminals):
    """Return the told labelling."""
    return LabellingSearch(network, terminals).best([], 0, None)[1]
