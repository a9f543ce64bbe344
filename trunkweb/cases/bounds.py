"""Bounds of multipliers under fixings of some variables."""

from trunkweb.errors import BadFixing, TooMany, WrongSize
from trunkweb.programs.fractions import added, ceiling, minus
from trunkweb.programs.judges import are_fit, gain, loads

MOST_VARIABLES = 16


def need_few(program):
    """Raise TooMany if a program has more variables than cases are made for."""
    if program.count() > MOST_VARIABLES:
        raise TooMany(program.count())


def need_fixing(program, fixing):
    """Raise an error unless a list is a fixing of the variables of a program."""
    need_few(program)
    if len(fixing) != program.count():
        raise WrongSize(0)
    for variable, fixed in enumerate(fixing):
        if fixed is not None and fixed not in (0, 1):
            raise BadFixing(variable)


def bound_with(program, prices, fixing, multipliers):
    """Return the bound of multipliers under a fixing, for prices of any kind."""
    parts = [gain(program, multipliers)]
    for price, load, fixed in zip(prices, loads(program, multipliers), fixing):
        rest = minus((price, 1), load)
        if fixed == 1 or fixed is None and rest[0] < 0:
            parts.append(rest)
    return added(parts)


def case_bound(program, fixing, multipliers):
    """Return the bound of multipliers under a fixing."""
    need_fixing(program, fixing)
    return bound_with(program, program.prices(), fixing, multipliers)


def shows_none(program, fixing, multipliers):
    """Return whether multipliers are fit and show that no list under a fixing is good."""
    need_fixing(program, fixing)
    if not are_fit(program, multipliers):
        return False
    return bound_with(program, [0] * program.count(), fixing, multipliers)[0] > 0


def first_under(fixing):
    """Return the first list under a fixing."""
    return [0 if fixed is None else fixed for fixed in fixing]


def closes(program, fixing, multipliers, value, told):
    """Return whether multipliers are fit and close a fixing for a value and a list."""
    need_fixing(program, fixing)
    if not are_fit(program, multipliers):
        return False
    least = ceiling(case_bound(program, fixing, multipliers))
    return least > value or least == value and first_under(fixing) >= told
