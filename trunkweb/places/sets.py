"""Sets of sites, tried one and all."""

from trunkweb.networks.checks import is_ascending


def is_opening(many, numbers):
    """Return whether a list is an ascending list of some of this many sites, at least one."""
    return len(numbers) > 0 and is_ascending(numbers, many)


def nearest_site(row, numbers):
    """Return the one of some ascending sites to which a client has the least way, the first of several."""
    return min(numbers, key=lambda number: row[number])


def nearest(ways, numbers):
    """Return for each client the least of its ways to some sites, of which there is at least one."""
    return [min([row[number] for number in numbers]) for row in ways]


def told_set(ways, prices, most):
    """Return the cheapest set of at most `most` sites; of several, the one with the fewest, then the first.

    A set costs the prices of its sites and the least ways of all clients to them.
    """
    best = None
    # Sets that have the same last site stand together, each with its price and its least ways.
    known = []
    for site, price in enumerate(prices):
        column = [row[site] for row in ways]
        joined = [([site], price, column)]
        for numbers, spent, least in known:
            if len(numbers) < most:
                joined.append((numbers + [site], spent + price, [min(pair) for pair in zip(least, column)]))
        for numbers, spent, least in joined:
            key = (spent + sum(least), len(numbers), numbers)
            if best is None or key < best:
                best = key
        known = known + joined
    return best[2]
