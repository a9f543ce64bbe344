"""Programs for the tests, and the points on them word by word."""

import random
from fractions import Fraction

from trunkweb.programs.program import Program

RELATIONS = ("least", "most", "equal")
MILLION = 1048576


def pair(number):
    """Return the fraction of an integer or a Fraction."""
    number = Fraction(number)
    return (number.numerator, number.denominator)


def pairs(numbers):
    """Return the list of the fractions of numbers."""
    return [pair(number) for number in numbers]


def some_fraction(dice, most=5, parts=4):
    """Return a small Fraction of any sign."""
    return Fraction(dice.randint(-most, most), dice.randint(1, parts))


def random_program(dice, variables=(1, 5), rows=(0, 6), most=4, relations=RELATIONS):
    """Return a program with small numbers, many of them 0."""
    many = dice.randint(*variables)
    return Program(
        [dice.randint(-most, most) for _ in range(many)],
        [
            ([dice.choice((0, dice.randint(-most, most))) for _ in range(many)], dice.choice(relations),
             dice.choice((0, dice.randint(-most, most))))
            for _ in range(dice.randint(*rows))
        ])


def random_programs(seed, count, *given, **more):
    """Return a list of random programs."""
    dice = random.Random(seed)
    return [random_program(dice, *given, **more) for _ in range(count)]


def dot(numbers, values):
    """The sum of the products, as a Fraction."""
    return sum((number * Fraction(*value) for number, value in zip(numbers, values)), Fraction(0))


def holds(relation, amount, bound):
    """Whether an amount is to a bound as the relation says."""
    return {"least": amount >= bound, "most": amount <= bound, "equal": amount == bound}[relation]


def is_solution(program, values):
    """Point 603, word by word."""
    if len(values) != program.count() or any(value[0] < 0 for value in values):
        return False
    return all(holds(relation, dot(numbers, values), bound) for numbers, relation, bound in program.rows())


def value_of(program, values):
    """The value of values, as a Fraction."""
    return dot(program.prices(), values)


def are_fit(program, multipliers):
    """Point 604: whether multipliers are fit."""
    if len(multipliers) != len(program.rows()):
        return False
    for (_, relation, _), (numerator, _) in zip(program.rows(), multipliers):
        if relation == "least" and numerator < 0 or relation == "most" and numerator > 0:
            return False
    return True


def loads(program, multipliers):
    """Point 604: the loads, as Fractions."""
    return [dot([row[0][j] for row in program.rows()], multipliers) for j in range(program.count())]


def gain(program, multipliers):
    """Point 604: the gain, as a Fraction."""
    return dot([row[2] for row in program.rows()], multipliers)


def shows_least(program, value, values, multipliers):
    """Point 605: whether multipliers show a least solution with this value."""
    if not is_solution(program, values) or not are_fit(program, multipliers):
        return False
    if any(load > price for load, price in zip(loads(program, multipliers), program.prices())):
        return False
    return value_of(program, values) == Fraction(*value) == gain(program, multipliers)


def shows_none(program, multipliers):
    """Point 605: whether multipliers show that there is no solution."""
    if not are_fit(program, multipliers) or any(load > 0 for load in loads(program, multipliers)):
        return False
    return gain(program, multipliers) > 0


def is_ray(program, ray):
    """Point 605: whether a list is a ray."""
    if len(ray) != program.count() or any(part[0] < 0 for part in ray) or not value_of(program, ray) < 0:
        return False
    return all(holds(relation, dot(numbers, ray), 0) for numbers, relation, _ in program.rows())


def rank(rows):
    """The number of independent ones of some lists, by Fractions."""
    rows = [[Fraction(number) for number in row] for row in rows]
    found = 0
    for column in range(len(rows[0]) if rows else 0):
        heads = [row for row in rows[found:] if row[column] != 0]
        if heads:
            rows.remove(heads[0])
            rows.insert(found, heads[0])
            for at in range(found + 1, len(rows)):
                factor = rows[at][column] / heads[0][column]
                rows[at] = [a - factor * b for a, b in zip(rows[at], heads[0])]
            found += 1
    return found


def is_vertex(program, values):
    """Point 606, word by word."""
    if not is_solution(program, values):
        return False
    used = [j for j, value in enumerate(values) if value[0] > 0]
    tight = [[numbers[j] for j in used] for numbers, _, bound in program.rows() if dot(numbers, values) == bound]
    return rank(tight) == len(used)


def changed_values(values, many=3):
    """Lists of fractions that differ from the given one, and lists of other sizes."""
    yield values[:-1]
    yield values + [(0, 1)]
    yield []
    for k in range(min(many, len(values))):
        for change in (1, -1, Fraction(1, 7), Fraction(-1, 7)):
            yield values[:k] + [pair(Fraction(*values[k]) + change)] + values[k + 1:]
        yield values[:k] + [pair(-Fraction(*values[k]))] + values[k + 1:]
