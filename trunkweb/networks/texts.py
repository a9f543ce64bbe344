"""Networks written as texts."""

from trunkweb.errors import BadLine, BadPrice, BadVertex, TooMany
from trunkweb.networks.network import MOST_EDGES, Network, are_ends, is_price, is_size

MOST_DIGITS = 7


def write_network(network):
    """Return the text of a network."""
    lines = [f"network {network.size()}\n"]
    for u, v, price in network.edges():
        lines.append(f"edge {u} {v} {price}\n")
    return "".join(lines)


def is_number(word):
    """Return whether a word is a number without leading zeros that is not too long."""
    # Both tests are needed: signs beyond ASCII may be digits, too.
    if not (word.isascii() and word.isdigit()):
        return False
    return len(word) <= MOST_DIGITS and (word == "0" or word[0] != "0")


def read_line(line, at, word, many):
    """Return the numbers of a line that has this word and as many numbers behind it."""
    words = line.split(" ")
    if words[0] != word or len(words) != many + 1:
        raise BadLine(at)
    for digits in words[1:]:
        if not is_number(digits):
            raise BadLine(at)
    return [int(digits) for digits in words[1:]]


def read_edge(line, at, size):
    """Return the triple of a line with an edge."""
    u, v, price = read_line(line, at, "edge", 3)
    if not are_ends(size, u, v):
        raise BadVertex(at)
    if not is_price(price):
        raise BadPrice(at)
    return (u, v, price)


def read_network(text):
    """Return the network that a text describes."""
    lines = text.split("\n")
    # What stands behind the last newline is a line without one, unless it is empty.
    rest = lines.pop()
    if not lines:
        raise BadLine(0)
    size = read_line(lines[0], 0, "network", 1)[0]
    if not is_size(size):
        raise BadVertex(0)
    edges = []
    for at, line in enumerate(lines):
        if at > 0:
            edges.append(read_edge(line, at, size))
        if len(edges) > MOST_EDGES:
            raise TooMany(at)
    if rest != "":
        raise BadLine(len(lines))
    return Network(size, edges)
