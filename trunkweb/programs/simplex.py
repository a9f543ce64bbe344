"""The simplex method: each program is decided, and what it ends with is shown."""

from trunkweb.programs.program import value_of
from trunkweb.programs.tableau import Tableau


def tableau_of(program):
    """Return the tableau of a program, each row with a room of at least 0, or fixed to 0.

    Its first goal has prices above 0, so it is at its lowest where all variables are 0. The last one is
    that of the program.
    """
    prices = program.prices()
    tableau = Tableau([[max(1, price) for price in prices], prices])
    for numbers, relation, bound in program.rows():
        if relation == "least":
            tableau.add_row([-number for number in numbers], -bound, False)
        else:
            tableau.add_row(numbers, bound, relation == "equal")
    return tableau


def multipliers_of(program, weights):
    """Return the multipliers of the rows, from the weights of their rooms."""
    found = []
    for row, (numerator, denominator) in zip(program.rows(), weights):
        if row[1] == "least":
            found.append((numerator, denominator))
        else:
            found.append((-numerator, denominator))
    return found


def solve(program):
    """Return how a program ends, with what shows it."""
    tableau = tableau_of(program)
    broken = tableau.fulfil()
    if broken is not None:
        return ("none", multipliers_of(program, tableau.line_weights(broken)))
    column = tableau.descend()
    values = tableau.solution()
    if column is not None:
        return ("endless", values, tableau.ray(column))
    return ("least", value_of(program, values), values, multipliers_of(program, tableau.goal_weights()))
