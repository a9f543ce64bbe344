"""The told opening, and trees of cases that show its cost."""

from trunkweb.places.duals import free_of, is_fair_in, opened, raised
from trunkweb.places.sets import is_opening, told_set
from trunkweb.places.trees import shows, tree_in
from trunkweb.programs.fractions import added, is_less


class OpeningJudge:
    """Says what leaves of trees of cases show of openings: that none costs less than a cost."""

    def __init__(self, order, cost):
        self._openings = order.openings()
        self._ways = order.ways()
        self._cost = cost

    def is_shown(self, case, leaf):
        """Return whether a leaf shows the cost in a case."""
        if leaf[0] == "none":
            return all([state is False for state in case])
        dual = leaf[1]
        prices = [(opening, 1) for opening in self._openings]
        if not is_fair_in(case, self._ways, prices, dual):
            return False
        return not is_less(added(dual + [prices[site] for site in opened(case)]), (self._cost, 1))

    def leaf(self, case):
        """Return a leaf that shows the cost in a case, or None; one that does if no site is free."""
        if not opened(case) and not free_of(case):
            return ("none",)
        dual = raised(case, self._ways, self._openings)
        if sum(dual) + sum([self._openings[site] for site in opened(case)]) < self._cost:
            return None
        return ("bound", [(amount, 1) for amount in dual])


def told_opening(order):
    """Return the told opening."""
    openings = order.openings()
    return told_set(order.ways(), openings, len(openings))


def opening_cases(order):
    """Return a tree of cases that shows the cost of the told opening."""
    judge = OpeningJudge(order, order.cost(told_opening(order)))
    return tree_in(judge, [None] * len(order.openings()))


def check_opening(order, numbers, tree):
    """Return whether a list is an opening, and the tree shows its cost."""
    many = len(order.openings())
    if not is_opening(many, numbers):
        return False
    return shows(OpeningJudge(order, order.cost(numbers)), [None] * many, tree)
