"""The search for the told list, with a tree of cases that shows it."""

from trunkweb.cases.bounds import closes, need_few
from trunkweb.cases.packed import best_list
from trunkweb.cases.relaxed import relaxed
from trunkweb.programs.fractions import scaled


def next_variable(fixing, values):
    """Return the variable for the next cases: the one nearest to one half, or the first that is not fixed."""
    numerators, scale = scaled(values)
    between = [variable for variable, numerator in enumerate(numerators) if 0 < numerator < scale]
    if not between:
        return fixing.index(None)
    return min(between, key=lambda variable: abs(2 * numerators[variable] - scale))


def tree_under(program, fixing, known, goal):
    """Return a tree that is accepted under a fixing for a goal, a pair (value, list), or None.

    `known` is the program with the variables fixed so. The goal is the told list with its value; None
    if no list is good. So there is a tree: where all variables are fixed, a leaf is accepted.
    """
    told = known.solve()
    if told[0] == "none":
        return ("none", told[1])
    if goal is not None and closes(program, fixing, told[1], goal[0], goal[1]):
        return ("bound", told[1])
    variable = next_variable(fixing, told[2])
    parts = []
    for number in (0, 1):
        below = list(fixing)
        below[variable] = number
        parts.append(tree_under(program, below, known.fixed(variable, number), goal))
    return ("cases", variable, parts[0], parts[1])


def first_best(program):
    """Return ("list", value, told, tree) with the told list, or ("none", tree) if no list is good."""
    need_few(program)
    goal = best_list(program)
    tree = tree_under(program, [None] * program.count(), relaxed(program), goal)
    if goal is None:
        return ("none", tree)
    return ("list", goal[0], goal[1], tree)
