"""Tasks for the tests, and all lists that serve them."""

import random

from tests.samples import first_of, price_of, reach, small_networks, steps_from, sublists

KINDS = ("path", "arcs", "forest", "arborescence", "steiner")


def random_task(dice, network, kind=None, most=4):
    """Return a task of a kind, or of any."""
    size = network.size()
    kind = kind or dice.choice(KINDS)
    if kind in ("path", "arcs"):
        return (kind, dice.randrange(size), dice.randrange(size))
    if kind == "forest":
        return (kind,)
    if kind == "arborescence":
        return (kind, dice.randrange(size))
    return (kind, dice.sample(range(size), dice.randint(1, min(most, size))))


def some_tasks(seed, count, sizes=(1, 5), many=(0, 7), kinds=KINDS):
    """Small networks with a task each, as many of each kind."""
    dice = random.Random(seed)
    for at, network in enumerate(small_networks(seed, count, sizes, many)):
        yield network, random_task(dice, network, kinds[at % len(kinds)])


def parts_of(network, numbers):
    """The set of the parts that edges connect."""
    return {frozenset(reach(network, vertex, False, numbers)) for vertex in range(network.size())}


def ends_at(network, task, numbers):
    """The vertex to which a list of edges leads from the start of a task, or None if it is no path."""
    vertex = task[1]
    for number in numbers:
        steps = dict(steps_from(network, vertex, task[0] == "arcs"))
        if number not in steps:
            return None
        vertex = steps[number]
    return vertex


def serves(network, task, numbers):
    """Point 1001, word by word."""
    if task[0] in ("path", "arcs"):
        return ends_at(network, task, numbers) == task[2]
    many = len(network.edges())
    if any(number not in range(many) for number in numbers) or numbers != sorted(set(numbers)):
        return False
    if task[0] == "forest":
        spanning = parts_of(network, numbers) == parts_of(network, list(range(many)))
        return spanning and len(numbers) == network.size() - len(parts_of(network, numbers))
    if task[0] == "arborescence":
        ends = sorted(network.edges()[number][1] for number in numbers)
        rest = [vertex for vertex in range(network.size()) if vertex != task[1]]
        return ends == rest and len(reach(network, task[1], True, numbers)) == network.size()
    return set(task[1]) <= reach(network, task[1][0], False, numbers)


def lists_for(network, task):
    """All lists that serve a task; of the paths those that come to no vertex twice."""
    if task[0] not in ("path", "arcs"):
        return [numbers for numbers in sublists(range(len(network.edges()))) if serves(network, task, numbers)]
    found = []

    def walk(vertex, path, seen):
        if vertex == task[2]:
            found.append(path)
        for number, other in steps_from(network, vertex, task[0] == "arcs"):
            if other not in seen:
                walk(other, path + [number], seen | {other})

    walk(task[1], [], {task[1]})
    return found


def told_of(network, lists):
    """The first of some lists in the order in which answers are told, or None."""
    return first_of(network, lists)


def least_of(network, lists):
    """The least price of some lists, or None."""
    return min((price_of(network, numbers) for numbers in lists), default=None)
