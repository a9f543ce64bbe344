"""Small checks that many modules share."""

from trunkweb.errors import BadVertex, SameVertex


def need_vertex(size, vertex):
    """Raise BadVertex unless a network of this size has the vertex."""
    if not 0 <= vertex < size:
        raise BadVertex(vertex)


def need_two(size, one, two):
    """Raise an error unless these are two different vertices."""
    need_vertex(size, one)
    need_vertex(size, two)
    if one == two:
        raise SameVertex(one)


def is_ascending(numbers, many):
    """Return whether a list ascends, no number twice, and has only numbers from 0 to many - 1."""
    last = -1
    for number in numbers:
        if not last < number < many:
            return False
        last = number
    return True
