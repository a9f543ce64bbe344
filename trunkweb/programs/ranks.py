"""How many of some lists of integers are independent."""


def reduced(row, top, column, last):
    """Return a list of which a multiple of another one is taken off, so that it has 0 in a column."""
    return [(number * top[column] - row[column] * other) // last for number, other in zip(row, top)]


def rank(rows):
    """Return the greatest number of independent ones among lists of the same length.

    Each division leaves no rest (Bareiss): so the numbers stay as small as determinants are.
    """
    work = [list(row) for row in rows]
    last = 1
    found = 0
    for column in range(len(rows[0]) if rows else 0):
        heads = [at for at, row in enumerate(work) if row[column] != 0]
        if heads:
            top = work.pop(heads[0])
            work = [reduced(row, top, column, last) for row in work]
            last = top[column]
            found += 1
    return found
