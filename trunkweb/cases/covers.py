"""Covers of elements by sets: their program, the quick cover, shares, and their bound."""

from trunkweb.errors import BadPrice, BadSet, OutOfRange, TooMany
from trunkweb.networks.checks import is_ascending
from trunkweb.networks.network import is_price
from trunkweb.programs.fractions import added, fraction, is_less, over, times
from trunkweb.programs.program import Program

MOST_ELEMENTS = 40
MOST_SETS = 40


def need_sets(size, sets):
    """Raise an error unless these are sets of the elements from 0 to size - 1, with prices."""
    if not 1 <= size <= MOST_ELEMENTS:
        raise OutOfRange(size)
    if not 1 <= len(sets) <= MOST_SETS:
        raise TooMany(len(sets))
    for index, (members, price) in enumerate(sets):
        if not is_ascending(members, size):
            raise BadSet(index)
        if not is_price(price):
            raise BadPrice(index)


def cover_program(size, sets):
    """Return the program of the covers: a variable for each set, a row for each element."""
    need_sets(size, sets)
    rows = []
    for member in range(size):
        rows.append(([1 if member in members else 0 for members, _ in sets], "least", 1))
    return Program([price for _, price in sets], rows)


def cheapest_set(sets, covered):
    """Return the triple (share, number, members) of the set to take next, with its members that are new.

    None if no set covers anything anew.
    """
    best = None
    for number, (members, price) in enumerate(sets):
        anew = [member for member in members if not covered[member]]
        if anew:
            share = fraction(price, len(anew))
            if best is None or is_less(share, best[0]):
                best = (share, number, anew)
    return best


def quick_cover(size, sets):
    """Return the triple of the taken sets, their price and the shares, or None if there is no cover."""
    need_sets(size, sets)
    covered = [False] * size
    shares = [(0, 1)] * size
    taken = []
    while not all(covered):
        best = cheapest_set(sets, covered)
        if best is None:
            return None
        share, number, anew = best
        taken.append(number)
        for member in anew:
            covered[member] = True
            shares[member] = share
    return taken, sum([sets[number][1] for number in taken]), shares


def harmonic(many):
    """Return 1 + 1 / 2 + .. + 1 / many."""
    return added([(1, number) for number in range(1, many + 1)])


def cover_factor(size, sets):
    """Return the factor by which the quick cover may be dearer than another one."""
    need_sets(size, sets)
    return harmonic(max([len(members) for members, _ in sets]))


def are_cover(size, sets, taken):
    """Return whether these are numbers of different sets that have together all elements."""
    if len(set(taken)) != len(taken) or not all([0 <= number < len(sets) for number in taken]):
        return False
    return len(set([member for number in taken for member in sets[number][0]])) == size


def check_shares(size, sets, taken, shares):
    """Return whether shares show that the price of a cover is at most the factor times the least one."""
    need_sets(size, sets)
    if not are_cover(size, sets, taken) or len(shares) != size or not all([share[0] >= 0 for share in shares]):
        return False
    for members, price in sets:
        most = times(harmonic(len(members)), (price, 1))
        if is_less(most, added([shares[member] for member in members])):
            return False
    return added(shares) == (sum([sets[number][1] for number in taken]), 1)


def cover_bound(size, sets, shares):
    """Return the sum of the shares divided by the factor, 0 if the factor is 0."""
    factor = cover_factor(size, sets)
    if factor[0] == 0:
        return (0, 1)
    return over(added(shares), factor)
