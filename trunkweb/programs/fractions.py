"""Fractions: pairs (numerator, denominator) in lowest terms with a denominator of at least 1."""

from math import gcd, lcm

from trunkweb.errors import ZeroDivisor


def fraction(numerator, denominator):
    """Return the fraction of two integers."""
    if denominator == 0:
        raise ZeroDivisor(numerator)
    common = gcd(numerator, denominator)
    if denominator < 0:
        common = -common
    return (numerator // common, denominator // common)


def is_fraction(pair):
    """Return whether a pair of integers is a fraction."""
    numerator, denominator = pair
    return denominator >= 1 and gcd(numerator, denominator) == 1


def plus(first, second):
    """Return the sum of two fractions."""
    return fraction(first[0] * second[1] + second[0] * first[1], first[1] * second[1])


def minus(first, second):
    """Return the difference of two fractions."""
    return fraction(first[0] * second[1] - second[0] * first[1], first[1] * second[1])


def times(first, second):
    """Return the product of two fractions."""
    return fraction(first[0] * second[0], first[1] * second[1])


def over(first, second):
    """Return the quotient of two fractions."""
    return fraction(first[0] * second[1], first[1] * second[0])


def is_less(first, second):
    """Return whether the first fraction is less than the second one."""
    return first[0] * second[1] < second[0] * first[1]


def floor(pair):
    """Return the greatest integer that is not greater than a fraction."""
    return pair[0] // pair[1]


def ceiling(pair):
    """Return the least integer that is not less than a fraction."""
    return -(-pair[0] // pair[1])


def scaled(fractions):
    """Return the pair of the numerators of fractions over one denominator, and this denominator."""
    scale = 1
    for pair in fractions:
        scale = lcm(scale, pair[1])
    return [pair[0] * (scale // pair[1]) for pair in fractions], scale


def added(fractions):
    """Return the sum of a list of fractions."""
    numerators, scale = scaled(fractions)
    return fraction(sum(numerators), scale)
