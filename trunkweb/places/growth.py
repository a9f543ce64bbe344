"""Growing of duals until all clients have a site, and duals that are fair (Jain and Vazirani)."""

from trunkweb.places.duals import excess, is_fair_in
from trunkweb.programs.fractions import added, fraction, is_less, minus, plus


def pay_moment(opening, column, dual, now):
    """Return when a site that is not paid will be; the dual has None for each client that still grows.

    `column` has the ways of the clients to the site, and some client still grows.
    """
    left = (opening, 1)
    for way, amount in zip(column, dual):
        if amount is not None:
            left = minus(left, excess(amount, way))
    if left[0] == 0:
        return now
    growing = sorted([way for way, amount in zip(column, dual) if amount is None])
    best = None
    # If only the first clients paid, it would not be earlier: the earliest of these is the true one.
    for many, way in enumerate(growing, start=1):
        left = plus(left, (way, 1))
        moment = fraction(left[0], left[1] * many)
        if best is None or is_less(moment, best):
            best = moment
    return best


def next_moments(openings, ways, dual, paid, now):
    """Return for each site that is not paid the moment at which it will be, None for the others."""
    moments = []
    for site, opening in enumerate(openings):
        if site in paid:
            moments.append(None)
        else:
            moments.append(pay_moment(opening, [row[site] for row in ways], dual, now))
    return moments


def least_way(row, paid):
    """Return the least way of a client to the paid sites as a fraction, or None if there is none."""
    known = [row[site] for site in paid]
    return (min(known), 1) if known else None


def earliest(moments):
    """Return the least fraction of a list; None counts as greater than all of them."""
    best = None
    for moment in moments:
        if moment is not None and (best is None or is_less(moment, best)):
            best = moment
    return best


def grown(openings, ways):
    """Return the pair of the sites in the order in which they are paid, and the dual that is reached."""
    dual = [None] * len(ways)
    paid = []
    now = (0, 1)
    while None in dual:
        moments = next_moments(openings, ways, dual, paid, now)
        arrivals = [least_way(row, paid) if amount is None else None for row, amount in zip(ways, dual)]
        now = earliest(moments + arrivals)
        for site, moment in enumerate(moments):
            if moment == now:
                paid.append(site)
        # The first moment is one at which a site is paid: so there is a least way from then on.
        for client, row in enumerate(ways):
            if dual[client] is None and not is_less(now, least_way(row, paid)):
                dual[client] = now
    return paid, dual


def is_shared(ways, dual, one, two):
    """Return whether some client exceeds the ways to both of two sites."""
    for row, amount in zip(ways, dual):
        if is_less((row[one], 1), amount) and is_less((row[two], 1), amount):
            return True
    return False


def grow(order):
    """Return the pair of the grown opening and the dual that is reached."""
    openings = order.openings()
    ways = order.ways()
    if not ways:
        return [openings.index(min(openings))], []
    paid, dual = grown(openings, ways)
    taken = []
    for site in paid:
        if not any([is_shared(ways, dual, site, other) for other in taken]):
            taken.append(site)
    return sorted(taken), dual


def is_fair(order, dual):
    """Return whether a list of fractions is a fair dual."""
    openings = [(opening, 1) for opening in order.openings()]
    return is_fair_in([None] * len(openings), order.ways(), openings, dual)


def dual_sum(dual):
    """Return the sum of a dual."""
    return added(dual)
