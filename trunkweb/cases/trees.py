"""Trees of cases that show which good list is the told one, or that there is none."""

from trunkweb.cases.bounds import closes, need_few, shows_none
from trunkweb.programs.program import are_held, dot


def fulfils(program, told):
    """Return whether a list of integers is a good list."""
    if len(told) != program.count():
        return False
    return all([number in (0, 1) for number in told]) and are_held(program.rows(), told, 1)


def price_of(program, told):
    """Return the value of a list of 0s and 1s."""
    return dot(program.prices(), told)


def are_cases(program, fixing, tree, goal):
    """Return whether both parts of a tree with cases are accepted."""
    _, variable, low, high = tree
    # A variable that is fixed must not come again: so no tree is gone down without end.
    if not 0 <= variable < len(fixing) or fixing[variable] is not None:
        return False
    for number, part in ((0, low), (1, high)):
        below = list(fixing)
        below[variable] = number
        if not is_accepted(program, below, part, goal):
            return False
    return True


def is_accepted(program, fixing, tree, goal):
    """Return whether a tree is accepted under a fixing.

    The goal is a pair (value, list), or None for the purpose of showing that no list is good.
    """
    if tree[0] == "none":
        return shows_none(program, fixing, tree[1])
    if tree[0] == "bound":
        return goal is not None and closes(program, fixing, tree[1], goal[0], goal[1])
    return are_cases(program, fixing, tree, goal)


def check_first(program, value, told, tree):
    """Return whether a tree shows that a list is the told one, and the list has this value."""
    need_few(program)
    if not fulfils(program, told) or price_of(program, told) != value:
        return False
    return is_accepted(program, [None] * program.count(), tree, (value, told))


def check_no_list(program, tree):
    """Return whether a tree shows that no list is good."""
    need_few(program)
    return is_accepted(program, [None] * program.count(), tree, None)
