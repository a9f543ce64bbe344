"""How far the price of an edge may change before an answer is no longer least."""

from trunkweb.errors import BadEdge
from trunkweb.networks.network import Network
from trunkweb.prices.tasks import answer, least_price, price_of_answer, serves


def need_edge(network, number):
    """Raise BadEdge unless there is an edge with the number."""
    if not 0 <= number < len(network.edges()):
        raise BadEdge(number)


def answer_without(network, task, number):
    """Return the first of the lists without an edge that serve a task, or None."""
    edges = network.edges()
    rest = Network(network.size(), edges[:number] + edges[number + 1:])
    told = answer(rest, task)
    if told is None:
        return None
    numbers = [known if known < number else known + 1 for known in told]
    # Without the edge a forest may leave parts apart that the edge connects.
    return numbers if serves(network, task, numbers) else None


def price_range(network, task, number):
    """Return the pair (low, high) of the ends of the range of an edge, or None if there is no answer."""
    need_edge(network, number)
    told = answer(network, task)
    if told is None:
        return None
    spent = price_of_answer(network, told)
    if number not in told:
        return spent - least_price(network.with_price(number, 0), task), None
    other = answer_without(network, task, number)
    if other is None:
        return 0, None
    return 0, network.edges()[number][2] + price_of_answer(network, other) - spent


def rival(network, task, number):
    """Return the rival of an edge, or None if there is none."""
    need_edge(network, number)
    told = answer(network, task)
    if told is None:
        return None
    if number in told:
        return answer_without(network, task, number)
    free = network.with_price(number, 0)
    other = answer(free, task)
    return other if price_of_answer(free, other) < price_of_answer(network, told) else None
