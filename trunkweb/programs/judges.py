"""Checks of what shows how a program ends. They do not solve it."""

from trunkweb.errors import WrongSize
from trunkweb.programs.fractions import fraction, is_less, scaled
from trunkweb.programs.program import are_held, dot, is_solution, value_of
from trunkweb.programs.ranks import rank


def is_fit(relation, multiplier):
    """Return whether a multiplier of a row with this relation may have its sign."""
    if relation == "least":
        return multiplier[0] >= 0
    return relation == "equal" or multiplier[0] <= 0


def are_fit(program, multipliers):
    """Return whether a list of fractions are fit multipliers."""
    rows = program.rows()
    if len(multipliers) != len(rows):
        return False
    return all([is_fit(row[1], multiplier) for row, multiplier in zip(rows, multipliers)])


def scaled_for(rows, multipliers):
    """Return what `scaled` does; raise WrongSize unless there is a multiplier for each row."""
    if len(multipliers) != len(rows):
        raise WrongSize(0)
    return scaled(multipliers)


def loads(program, multipliers):
    """Return for each variable the sum of its numbers times the multipliers."""
    rows = program.rows()
    numerators, scale = scaled_for(rows, multipliers)
    return [
        fraction(dot([row[0][variable] for row in rows], numerators), scale)
        for variable in range(program.count())
    ]


def gain(program, multipliers):
    """Return the sum of the bounds times the multipliers."""
    rows = program.rows()
    numerators, scale = scaled_for(rows, multipliers)
    return fraction(dot([row[2] for row in rows], numerators), scale)


def are_below(program, multipliers, prices):
    """Return whether multipliers are fit, and no load is above the price at its place."""
    if not are_fit(program, multipliers):
        return False
    for load, price in zip(loads(program, multipliers), prices):
        if is_less((price, 1), load):
            return False
    return True


def check_least(program, value, values, multipliers):
    """Return whether multipliers show that values are a least solution, and have this value."""
    if not is_solution(program, values) or value_of(program, values) != value:
        return False
    return are_below(program, multipliers, program.prices()) and gain(program, multipliers) == value


def check_none(program, multipliers):
    """Return whether multipliers show that there is no solution."""
    return are_below(program, multipliers, [0] * program.count()) and gain(program, multipliers)[0] > 0


def is_ray(program, ray):
    """Return whether a list of fractions is a ray."""
    if len(ray) != program.count():
        return False
    numerators, scale = scaled(ray)
    rows = [(numbers, relation, 0) for numbers, relation, _ in program.rows()]
    return min(numerators) >= 0 and are_held(rows, numerators, scale) and value_of(program, ray)[0] < 0


def check_endless(program, values, ray):
    """Return whether values and a ray show that there are solutions of any low value."""
    return is_solution(program, values) and is_ray(program, ray)


def is_vertex(program, values):
    """Return whether values are a solution that is not the middle of two other ones."""
    if not is_solution(program, values):
        return False
    numerators, scale = scaled(values)
    used = [variable for variable, numerator in enumerate(numerators) if numerator > 0]
    tight = [
        [numbers[variable] for variable in used] for numbers, _, bound in program.rows()
        if dot(numbers, numerators) == bound * scale
    ]
    return rank(tight) == len(used)
