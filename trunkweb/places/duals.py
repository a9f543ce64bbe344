"""Duals that are fair in cases.

A case is a list with True for each open site, False for each closed one, None for each free one.
"""

from trunkweb.programs.fractions import added, is_less, minus


def excess(amount, way):
    """Return what a fraction exceeds a way, 0 if it does not."""
    return minus(amount, (way, 1)) if is_less((way, 1), amount) else (0, 1)


def opened(case):
    """Return the ascending list of the open sites of a case."""
    return [site for site, state in enumerate(case) if state is True]


def free_of(case):
    """Return the ascending list of the free sites of a case."""
    return [site for site, state in enumerate(case) if state is None]


def keeps_ways(ways, dual, site):
    """Return whether no client's fraction exceeds its way to a site."""
    return not any([is_less((row[site], 1), amount) for row, amount in zip(ways, dual)])


def is_fair_in(case, ways, prices, dual):
    """Return whether a list of fractions is a dual that is fair in a case, for prices that are fractions."""
    if len(dual) != len(ways) or not all([amount[0] >= 0 for amount in dual]):
        return False
    for site in opened(case):
        if not keeps_ways(ways, dual, site):
            return False
    for site in free_of(case):
        spent = added([excess(amount, row[site]) for amount, row in zip(dual, ways)])
        if is_less(prices[site], spent):
            return False
    return True


def step_of(row, amount, limit, left):
    """Return by how much a client may be raised at once.

    `row` has its ways to the free sites, `left` what is left of their prices; the limit is its least way
    to an open site, None if there is none. It stops at the next way, too, where another site begins to count.
    There is a free site, or a limit.
    """
    stops = [way - amount for way in row if way > amount]
    stops = stops + [rest for way, rest in zip(row, left) if way <= amount]
    if limit is not None:
        stops.append(limit - amount)
    return min(stops)


def raised(case, ways, prices):
    """Return a dual of integers that is fair in a case, for prices that are integers.

    Each client is raised in turn, as far as it can be, until none can be raised. Some site is not closed.
    """
    free = free_of(case)
    open_sites = opened(case)
    dual = [0] * len(ways)
    left = [prices[site] for site in free]
    is_moved = True
    while is_moved:
        is_moved = False
        for client, row in enumerate(ways):
            amount = dual[client]
            known = [row[site] for site in free]
            limit = min([row[site] for site in open_sites]) if open_sites else None
            step = step_of(known, amount, limit, left)
            if step > 0:
                is_moved = True
                dual[client] = amount + step
                left = [rest - step if way <= amount else rest for way, rest in zip(known, left)]
    return dual
