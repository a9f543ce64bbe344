"""Rows of a program, solved for some of the variables, in whole numbers alone."""

from trunkweb.programs.fractions import fraction


def turned(line, top, column, scale):
    """Return a line in which what another line says of the variable of a column has been put in.

    Each division leaves no rest: all numbers are determinants of numbers of the program (Edmonds).
    """
    pivot = top[column]
    factor = line[column]
    if factor == 0:
        after = [number * pivot // scale for number in line]
    else:
        after = [(number * pivot - factor * other) // scale for number, other in zip(line, top)]
    after[column] = -factor
    return after


class Tableau:
    """Variables from 0 on, a *room* for each row, and goals whose values are to be low.

    Each row says that the sum of its numbers times the variables, and its room, are its bound. A room
    is 0 or more, or fixed to 0, and is numbered as a variable behind those of the program. There is a
    line for each row, solved for one variable, the *basic* one; each column has a *free* one. The line
    says: the scale times the basic variable, and the sum of the line's numbers times the free ones, are
    its last number. Likewise each goal's line says it of the value of the goal.
    """

    def __init__(self, goals):
        self._many = len(goals[0])
        self._scale = 1
        self._free = list(range(self._many))
        self._basic = []
        self._lines = []
        self._goals = [[-price for price in prices] + [0] for prices in goals]
        self._fixed = [False] * self._many

    def copy(self):
        """Return an independent tableau with the same rows and goals."""
        made = Tableau([[0] * self._many])
        # Lines are never changed, but replaced: so both tableaus may have the same ones.
        made._scale = self._scale
        made._free = list(self._free)
        made._basic = list(self._basic)
        made._lines = list(self._lines)
        made._goals = list(self._goals)
        made._fixed = list(self._fixed)
        return made

    def fix(self, number):
        """Fix a variable or a room to 0; `fulfil` makes the others fulfil their rows then."""
        self._fixed[number] = True

    def drop_rows(self, first):
        """Drop the rows whose rooms, numbered from `first` on, are above 0; their numbers stay taken."""
        kept = [
            at for at, (number, line) in enumerate(zip(self._basic, self._lines))
            if number < first or line[-1] == 0
        ]
        self._basic = [self._basic[at] for at in kept]
        self._lines = [self._lines[at] for at in kept]

    def add_row(self, numbers, bound, is_fixed):
        """Add a row; say whether its room is fixed to 0."""
        line = [0 if variable >= self._many else self._scale * numbers[variable] for variable in self._free]
        line.append(self._scale * bound)
        for variable, known in zip(self._basic, self._lines):
            if variable < self._many and numbers[variable] != 0:
                line = [number - numbers[variable] * other for number, other in zip(line, known)]
        self._lines.append(line)
        self._basic.append(len(self._fixed))
        self._fixed.append(is_fixed)

    def fulfil(self):
        """Make all variables fulfil their rows; return None, or the index of a line that none fulfil.

        No number of the first goal's line is above 0 before, nor behind this, but for rooms that are fixed:
        so its value is least as soon as all rows are fulfilled (the dual simplex method).
        """
        by_number = False
        while True:
            at = self._broken_line(by_number)
            if at is None:
                return None
            column = self._mending_column(at)
            if column is None:
                return at
            # Where the goal stays as it is, the order of numbers keeps this from going round (Bland).
            by_number = self._goals[0][column] == 0
            self._turn(at, column)

    def descend(self):
        """Make the last goal's value least; return None, or a column along which it has no least value.

        All variables must fulfil their rows before, and do so behind this (the simplex method).
        """
        by_number = False
        while True:
            column = self._falling_column(by_number)
            if column is None:
                return None
            at = self._stopping_line(column)
            if at is None:
                return column
            by_number = self._lines[at][-1] == 0
            self._turn(at, column)

    def solution(self):
        """Return the values of the program's variables if all free ones are 0."""
        values = [(0, 1)] * self._many
        for variable, line in zip(self._basic, self._lines):
            if variable < self._many:
                values[variable] = fraction(line[-1], self._scale)
        return values

    def ray(self, column):
        """Return by how much the program's variables grow for each 1 of the free one of a column."""
        values = [(0, 1)] * self._many
        if self._free[column] < self._many:
            values[self._free[column]] = (1, 1)
        for variable, line in zip(self._basic, self._lines):
            if variable < self._many:
                values[variable] = fraction(-line[column], self._scale)
        return values

    def goal_weights(self):
        """Return for each room by how much the last goal's value grows for each 1 of it."""
        return self._room_weights([-number for number in self._goals[-1]])

    def line_weights(self, at):
        """Return for each room its weight in a line that none fulfil, whose last number is below 0."""
        line = self._lines[at]
        sign = -1 if line[-1] > 0 else 1
        weights = self._room_weights([sign * number for number in line])
        if self._basic[at] >= self._many:
            weights[self._basic[at] - self._many] = (sign, 1)
        return weights

    def _room_weights(self, line):
        """Return the numbers of a line for the rooms that are free, as fractions; 0 for the others."""
        weights = [(0, 1)] * (len(self._fixed) - self._many)
        for variable, number in zip(self._free, line):
            if variable >= self._many:
                weights[variable - self._many] = fraction(number, self._scale)
        return weights

    def _turn(self, at, column):
        """Make the basic variable of a line free, and the free one of a column basic."""
        top = self._lines[at]
        lines = [turned(line, top, column, self._scale) for line in self._lines]
        goals = [turned(line, top, column, self._scale) for line in self._goals]
        lines[at] = list(top)
        lines[at][column] = self._scale
        self._scale = top[column]
        if self._scale < 0:
            self._scale = -self._scale
            lines = [[-number for number in line] for line in lines]
            goals = [[-number for number in line] for line in goals]
        self._lines = lines
        self._goals = goals
        self._basic[at], self._free[column] = self._free[column], self._basic[at]

    def _broken_line(self, by_number):
        """Return the line whose variable is farthest from what it may be, or None if all are fulfilled."""
        broken = [
            at for at, line in enumerate(self._lines)
            if line[-1] < 0 or line[-1] > 0 and self._fixed[self._basic[at]]
        ]
        if not broken:
            return None
        if by_number:
            return min(broken, key=lambda known: self._basic[known])
        return max(broken, key=lambda known: abs(self._lines[known][-1]))

    def _mending_column(self, at):
        """Return the column that mends a line while the first goal stays at its lowest, or None."""
        line = self._lines[at]
        goal = self._goals[0]
        best = None
        for column, variable in enumerate(self._free):
            if not self._fixed[variable] and line[column] * line[-1] > 0:
                if best is None:
                    best = column
                else:
                    ratio = abs(goal[column] * line[best])
                    known = abs(goal[best] * line[column])
                    if ratio < known or ratio == known and variable < self._free[best]:
                        best = column
        return best

    def _falling_column(self, by_number):
        """Return the column that lowers the last goal most, or None if none does."""
        goal = self._goals[-1]
        falling = [
            column for column, variable in enumerate(self._free)
            if not self._fixed[variable] and goal[column] > 0
        ]
        if not falling:
            return None
        if by_number:
            return min(falling, key=lambda known: self._free[known])
        return max(falling, key=lambda known: goal[known])

    def _stopping_line(self, column):
        """Return the line that first stops the growth of the free variable of a column, or None."""
        best = None
        for at, (variable, line) in enumerate(zip(self._basic, self._lines)):
            if line[column] > 0 or line[column] < 0 and self._fixed[variable]:
                if best is None:
                    best = at
                else:
                    ratio = line[-1] * abs(self._lines[best][column])
                    known = self._lines[best][-1] * abs(line[column])
                    if ratio < known or ratio == known and variable < self._basic[best]:
                        best = at
        return best
