"""Programs whose variables may have any value from 0 to 1, as far as they are not fixed."""

from trunkweb.programs.fractions import minus, scaled
from trunkweb.programs.program import dot
from trunkweb.programs.tableau import Tableau


def roomy_row(row, mirrored):
    """Return a row as a tuple (numbers, bound, is_fixed, sign), for variables of which some are mirrored.

    The sum of the numbers times the variables, and a room, are the bound. The room is 0 or more, or fixed
    to 0. Its weight times the sign is the multiplier of the row.
    """
    numbers, relation, bound = row
    left = bound - sum([number for number, flag in zip(numbers, mirrored) if flag])
    signed = [-number if flag else number for number, flag in zip(numbers, mirrored)]
    if relation == "least":
        return [-number for number in signed], -left, False, 1
    return signed, left, relation == "equal", -1


class Relaxed:
    """A program with some variables fixed to 0 or 1, the others from 0 to 1.

    A variable with a price below 0 is *mirrored*: it counts from 1 downwards. So each variable has a
    price of at least 0, and the tableau can begin where all are 0. A row comes into the tableau only
    when values break it; `used` says which row is the one of each room, behind those of the variables.
    """

    def __init__(self, mirrored, rows, tableau, used):
        self._mirrored = mirrored
        self._rows = rows
        self._tableau = tableau
        self._used = used

    def fixed(self, variable, number):
        """Return the same with a variable fixed to 0 or 1."""
        many = len(self._mirrored)
        tableau = self._tableau.copy()
        if self._mirrored[variable] == (number == 0):
            # The room of the row that keeps the variable from going above 1.
            tableau.fix(many + variable)
        else:
            tableau.fix(variable)
        # Rows that are not tight slow down each step; those that are needed again come back.
        tableau.drop_rows(2 * many)
        return Relaxed(self._mirrored, self._rows, tableau, list(self._used))

    def solve(self):
        """Return ("none", multipliers) if there are no such values, else ("least", multipliers, values)."""
        while True:
            broken = self._tableau.fulfil()
            if broken is not None:
                return ("none", self._multipliers(self._tableau.line_weights(broken)))
            values = self._tableau.solution()
            row = self._worst_row(values)
            if row is None:
                return ("least", self._multipliers(self._tableau.goal_weights()), self._turned_back(values))
            numbers, bound, is_fixed, _ = self._rows[row]
            self._tableau.add_row(numbers, bound, is_fixed)
            self._used.append(row)

    def _turned_back(self, values):
        """Return the values of the variables that values of mirrored ones stand for."""
        return [minus((1, 1), value) if flag else value for value, flag in zip(values, self._mirrored)]

    def _worst_row(self, values):
        """Return the row that values break most, or None if they fulfil all rows."""
        numerators, scale = scaled(values)
        worst = None
        most = 0
        for index, (numbers, bound, is_fixed, _) in enumerate(self._rows):
            above = dot(numbers, numerators) - bound * scale
            if is_fixed:
                above = abs(above)
            if above > most:
                worst = index
                most = above
        return worst

    def _multipliers(self, weights):
        """Return the multipliers of the program's rows, from the weights of the rooms in the tableau."""
        multipliers = [(0, 1)] * len(self._rows)
        # A row that was dropped and came back stands more than once; its last room is the present one.
        for row, (numerator, denominator) in zip(self._used, weights[len(self._mirrored):]):
            multipliers[row] = (self._rows[row][3] * numerator, denominator)
        return multipliers


def relaxed(program):
    """Return a program with no variable fixed."""
    many = program.count()
    tableau = Tableau([[abs(price) for price in program.prices()]])
    for variable in range(many):
        tableau.add_row([1 if other == variable else 0 for other in range(many)], 1, False)
    mirrored = [price < 0 for price in program.prices()]
    return Relaxed(mirrored, [roomy_row(row, mirrored) for row in program.rows()], tableau, [])
