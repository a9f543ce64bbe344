"""The told choice of at most a number of sites, and trees of cases that show its cost."""

from trunkweb.errors import BadSet, OutOfRange
from trunkweb.places.duals import is_fair_in, opened, raised
from trunkweb.places.sets import is_opening, nearest, told_set
from trunkweb.places.trees import shows, tree_in
from trunkweb.programs.fractions import added, is_less, minus, times


def need_most(most):
    """Raise OutOfRange unless a choice may have some sites."""
    if most <= 0:
        raise OutOfRange(most)


class ChoiceJudge:
    """Says what leaves of trees of cases show of choices of at most `most` sites: that none costs less."""

    def __init__(self, order, most, cost):
        self._many = len(order.openings())
        self._ways = order.ways()
        self._most = most
        self._cost = cost

    def is_shown(self, case, leaf):
        """Return whether a leaf shows the cost in a case."""
        many_open = len(opened(case))
        if leaf[0] == "none":
            return many_open > self._most or all([state is False for state in case])
        _, charge, dual = leaf
        if charge[0] < 0 or not is_fair_in(case, self._ways, [charge] * self._many, dual):
            return False
        bound = minus(added(dual), times(charge, (self._most - many_open, 1)))
        return not is_less(bound, (self._cost, 1))

    def leaf(self, case):
        """Return a leaf that shows the cost in a case, or None.

        There is one if `most` sites are open, and if one is free and none is open: so the tree does not
        come to cases with more open sites, nor to that in which all are closed.
        """
        open_sites = opened(case)
        charge = 0
        if len(open_sites) == self._most:
            # No more sites may be opened: so each of them may be as dear as what all clients would spare.
            charge = sum(nearest(self._ways, open_sites))
        # So the charge is 0, or it is paid for no site: nothing is taken off the sum.
        dual = raised(case, self._ways, [charge] * self._many)
        if sum(dual) < self._cost:
            return None
        return ("bound", (charge, 1), [(amount, 1) for amount in dual])


def told_choice(order, most):
    """Return the set of at most `most` sites with the least sum of ways."""
    need_most(most)
    return told_set(order.ways(), [0] * len(order.openings()), most)


def choice_cost(order, numbers):
    """Return the sum of the clients' least ways to some sites."""
    if not is_opening(len(order.openings()), numbers):
        raise BadSet(0)
    return sum(nearest(order.ways(), numbers))


def choice_cases(order, most):
    """Return a tree of cases that shows the cost of the told choice."""
    judge = ChoiceJudge(order, most, choice_cost(order, told_choice(order, most)))
    return tree_in(judge, [None] * len(order.openings()))


def check_choice(order, most, numbers, tree):
    """Return whether a list is a set of at most `most` sites, and the tree shows its cost."""
    need_most(most)
    many = len(order.openings())
    if not is_opening(many, numbers) or len(numbers) > most:
        return False
    return shows(ChoiceJudge(order, most, choice_cost(order, numbers)), [None] * many, tree)
