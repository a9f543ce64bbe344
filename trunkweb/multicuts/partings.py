"""The told parting into k parts, and parting papers that show it."""

from trunkweb.multicuts.papers import is_enough, price_between


def labels_behind(first, many):
    """Return the labels from 0 to many - 1 that the next vertex may have behind those of the first vertices."""
    return list(range(min(max([-1] + first) + 2, many)))


def are_few(size, first, many):
    """Return whether there are too few other vertices for each label up to many - 1 to appear."""
    return size - len(first) < many - 1 - max([-1] + first)


class PartingJudge:
    """Says what papers show of partings into `many` parts: that a list is the told one, and has a price."""

    def __init__(self, network, many, told, price):
        self._size = network.size()
        self._edges = network.edges()
        self._many = many
        self._told = told
        self._price = price

    def next_labels(self, first):
        """Return the labels that the next vertex may have, none if all vertices have labels."""
        return [] if len(first) == self._size else labels_behind(first, self._many)

    def is_shown(self, first, paper):
        """Return whether a paper without cases is accepted for the labels of the first vertices."""
        if paper[0] == "few":
            return are_few(self._size, first, self._many)
        return paper[0] == "price" and is_enough(first, price_between(self._edges, first), self._told, self._price)

    def paper(self, first):
        """Return a paper that is accepted for the first labels."""
        if are_few(self._size, first, self._many):
            return ("few",)
        if is_enough(first, price_between(self._edges, first), self._told, self._price):
            return ("price",)
        return ("cases", [self.paper(first + [label]) for label in self.next_labels(first)])


def best_parting(network, many, first, known):
    """Return the best pair of a price and a parting: `known`, or one with these first labels.

    `known` is None, or comes ahead of all with these first labels.
    """
    if are_few(network.size(), first, many):
        return known
    spent = price_between(network.edges(), first)
    if known is not None and spent >= known[0]:
        return known
    if len(first) == network.size():
        return (spent, first)
    for label in labels_behind(first, many):
        known = best_parting(network, many, first + [label], known)
    return known
