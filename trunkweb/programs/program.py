"""Linear programs, and the values of their variables."""

from trunkweb.errors import BadRelation, OutOfRange, TooMany, WrongSize
from trunkweb.programs.fractions import fraction, scaled

MOST_VARIABLES = 40
MOST_ROWS = 80
RELATIONS = ("least", "most", "equal")


class Program:
    """A program: a price for each variable, and rows (numbers, relation, bound)."""

    def __init__(self, prices, rows):
        if not 1 <= len(prices) <= MOST_VARIABLES:
            raise OutOfRange(len(prices))
        if len(rows) > MOST_ROWS:
            raise TooMany(len(rows))
        for at, (numbers, relation, _) in enumerate(rows):
            if len(numbers) != len(prices):
                raise WrongSize(at)
            if relation not in RELATIONS:
                raise BadRelation(at)
        self._prices = list(prices)
        self._rows = [(list(numbers), relation, bound) for numbers, relation, bound in rows]

    def count(self):
        """Return the number of variables."""
        return len(self._prices)

    def prices(self):
        """Return the list of the prices."""
        return list(self._prices)

    def rows(self):
        """Return the list of the rows."""
        return [(list(numbers), relation, bound) for numbers, relation, bound in self._rows]


def dot(numbers, others):
    """Return the sum of the products of the numbers at the same places."""
    return sum([number * other for number, other in zip(numbers, others)])


def is_held(relation, amount, bound):
    """Return whether an amount is to a bound as a relation says."""
    if relation == "least":
        return amount >= bound
    if relation == "most":
        return amount <= bound
    return amount == bound


def are_held(rows, numerators, scale):
    """Return whether values, given by their numerators over one denominator, fulfil all rows."""
    for numbers, relation, bound in rows:
        if not is_held(relation, dot(numbers, numerators), bound * scale):
            return False
    return True


def is_solution(program, values):
    """Return whether a list of fractions is a solution."""
    if len(values) != program.count():
        return False
    numerators, scale = scaled(values)
    return min(numerators) >= 0 and are_held(program.rows(), numerators, scale)


def value_of(program, values):
    """Return the sum of the prices times the values."""
    if len(values) != program.count():
        raise WrongSize(0)
    numerators, scale = scaled(values)
    return fraction(dot(program.prices(), numerators), scale)
