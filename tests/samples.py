"""Networks for the tests, and slow searches that try everything."""

import random
from itertools import combinations

from trunkweb.networks.network import Network

MILLION = 1048576


def random_network(dice, size, many, most):
    """Return a network with random edges and prices up to most."""
    edges = []
    if size > 1:
        for _ in range(many):
            u, v = dice.sample(range(size), 2)
            edges.append((u, v, dice.randint(0, most)))
    return Network(size, edges)


def small_networks(seed, count, sizes=(2, 5), many=(0, 8), prices=(0, 1, 3, 9)):
    """Return a list of small random networks; few prices make many ties."""
    dice = random.Random(seed)
    return [
        random_network(dice, dice.randint(*sizes), dice.randint(*many), dice.choice(prices))
        for _ in range(count)
    ]


def great_network(seed, size=40, many=200, most=MILLION):
    """Return a network of the greatest size, by default."""
    return random_network(random.Random(seed), size, many, most)


def sublists(items, fewest=0):
    """Yield all ascending lists of some of the items."""
    items = list(items)
    for many in range(fewest, len(items) + 1):
        for some in combinations(items, many):
            yield list(some)


def steps_from(network, vertex, arcs):
    """Yield the pairs (number, other) of the edges that can be gone from a vertex."""
    for number, (u, v, _) in enumerate(network.edges()):
        if u == vertex:
            yield number, v
        elif v == vertex and not arcs:
            yield number, u


def simple_paths(network, start, goal, arcs):
    """Return all paths from the start to the goal without a vertex twice."""
    found = []

    def walk(vertex, path, seen):
        if vertex == goal:
            found.append(path)
            return
        for number, other in steps_from(network, vertex, arcs):
            if other not in seen:
                walk(other, path + [number], seen | {other})

    walk(start, [], {start})
    return found


def price_of(network, numbers):
    """Return the sum of the prices of edges."""
    edges = network.edges()
    return sum(edges[number][2] for number in numbers)


def first_of(network, lists):
    """Return the list of the least price, then the fewest edges, then the first one; None of none."""
    return min(lists, key=lambda numbers: (price_of(network, numbers), len(numbers), numbers), default=None)


def reach(network, start, arcs, numbers=None):
    """Return the set of the vertices with a path from the start by the given edges, or by all."""
    found = {start}
    waiting = [start]
    while waiting:
        for number, other in steps_from(network, waiting.pop(), arcs):
            if (numbers is None or number in numbers) and other not in found:
                found.add(other)
                waiting.append(other)
    return found


def sides(network, start, goal):
    """Return all sides for a start and a goal."""
    others = [v for v in range(network.size()) if v not in (start, goal)]
    return [sorted([start] + some) for some in sublists(others)]


def leaves(edge, side, arcs):
    """Return whether an edge leaves a side."""
    u, v, _ = edge
    return u in side and v not in side or not arcs and v in side and u not in side


def side_capacity(network, side, arcs):
    """Return the capacity of a side."""
    return sum(edge[2] for edge in network.edges() if leaves(edge, side, arcs))


def least_sides(network, start, goal, arcs):
    """Return the pair of the least capacity and all sides that have it."""
    known = [(side_capacity(network, side, arcs), side) for side in sides(network, start, goal)]
    least = min(known)[0]
    return least, [side for capacity, side in known if capacity == least]


def ends_in(dice, size):
    """Return two different vertices."""
    return dice.sample(range(size), 2)


def changed_lists(numbers, many):
    """Yield lists of integers that differ from the given one, with numbers that are none, too."""
    for k in range(len(numbers)):
        yield numbers[:k] + numbers[k + 1:]
        for other in (-1, many, numbers[k] - 1, numbers[k] + 1):
            if other != numbers[k]:
                yield numbers[:k] + [other] + numbers[k + 1:]
    for other in range(-1, many + 1):
        yield numbers + [other]
        yield [other] + numbers
    yield numbers[::-1] + [many + 5]
