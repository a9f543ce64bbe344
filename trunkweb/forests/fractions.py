"""Heights of moats, and their sums held against integers."""

from trunkweb.programs.fractions import added, is_fraction, is_less, times


def is_height(pair):
    """Return whether a pair of integers is a fraction greater than 0."""
    return is_fraction(pair) and pair[0] > 0


def add_to_most(heights, most):
    """Return whether fractions add up to at most an integer."""
    return not is_less((most, 1), added(heights))


def is_within(amount, factor, pair):
    """Return whether an integer is at most an integer times a fraction."""
    return not is_less(times((factor, 1), pair), (amount, 1))
