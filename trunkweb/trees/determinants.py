"""Exact determinants."""


def determinant(rows):
    """Return the determinant of a positive definite matrix of integers.

    Each division leaves no rest (Bareiss). No divisor is 0: they are the determinants of the first
    rows and columns, which are positive.
    """
    work = [list(row) for row in rows]
    last = 1
    for at in range(len(work)):
        top = work[at]
        for row in work[at + 1:]:
            factor = row[at]
            for column in range(at, len(work)):
                row[column] = (row[column] * top[at] - factor * top[column]) // last
        last = top[at]
    return last
