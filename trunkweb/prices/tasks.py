"""Tasks in networks: their answers, and the lists of edges that serve them."""

from trunkweb.networks.moves import all_moves, path_end, prices_of
from trunkweb.networks.paths import told_path
from trunkweb.steiner.trees import is_steiner_tree, told_tree
from trunkweb.trees.arborescences import is_arborescence, told_arborescence
from trunkweb.trees.spanning import is_spanning_forest, told_forest


def answer(network, task):
    """Return the answer of a task, or None."""
    if task[0] == "forest":
        return told_forest(network)
    if task[0] == "arborescence":
        return told_arborescence(network, task[1])
    if task[0] == "steiner":
        return told_tree(network, task[1])
    return told_path(network, task[1], task[2], task[0] == "arcs")


def price_of_answer(network, numbers):
    """Return the sum of the prices of an answer, None for None."""
    if numbers is None:
        return None
    prices = prices_of(network)
    return sum([prices[number] for number in numbers])


def least_price(network, task):
    """Return the price of the answer of a task, or None."""
    return price_of_answer(network, answer(network, task))


def serves(network, task, numbers):
    """Return whether a list of integers serves a task."""
    if task[0] == "forest":
        return is_spanning_forest(network, numbers)
    if task[0] == "arborescence":
        return is_arborescence(network, task[1], numbers)
    if task[0] == "steiner":
        return is_steiner_tree(network, task[1], numbers)
    return path_end(all_moves(network, task[0] == "arcs"), task[1], numbers) == task[2]
