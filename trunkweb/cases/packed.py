"""The told list of a program, by trying all lists of 0s and 1s.

What a list has over in some rows is added up at once: it is written into one integer, with a *field* of
the same width for each row. The highest bit of a field says that nothing is missing in its row. A list
has a *place*: the number whose binary digits it has, so lists are ordered as their places are.
"""

# So many rows at once keep the integers short.
FIELDS = 30


def demands_of(program):
    """Return pairs (numbers, bound): the sum of the numbers times a good list is at least each bound."""
    demands = []
    for numbers, relation, bound in program.rows():
        if relation != "most":
            demands.append((numbers, bound))
        if relation != "least":
            demands.append(([-number for number in numbers], -bound))
    return demands


def packed(fields, width):
    """Return the sum of numbers, each moved to the field of its index."""
    return sum([number << (width * index) for index, number in enumerate(fields)])


def sums_of(steps, first):
    """Return the sums of a first number and some of the steps, in the order of the lists that choose them."""
    sums = [first]
    for step in steps:
        sums = [known + x * step for known in sums for x in (0, 1)]
    return sums


def kept(places, demands, many):
    """Return those places of lists of this many 0s and 1s that meet the demands."""
    greatest = max([abs(bound) + sum([abs(number) for number in numbers]) for numbers, bound in demands])
    # One bit is the highest one of the field; the others hold whatever a row may have over.
    width = greatest.bit_length() + 2
    top = 1 << (width - 1)
    tops = packed([top] * len(demands), width)
    columns = [packed([demand[0][variable] for demand in demands], width) for variable in range(many)]
    behind = many // 2
    heads = sums_of(columns[:many - behind], packed([top - demand[1] for demand in demands], width))
    tails = sums_of(columns[many - behind:], 0)
    last = len(tails) - 1
    return [place for place in places if (heads[place >> behind] + tails[place & last]) & tops == tops]


def best_list(program):
    """Return the pair of the least value of a good list and the first list with it, or None."""
    many = program.count()
    places = list(range(1 << many))
    demands = demands_of(program)
    for start in range(0, len(demands), FIELDS):
        places = kept(places, demands[start:start + FIELDS], many)
    if not places:
        return None
    prices = sums_of(program.prices(), 0)
    # The places ascend, and `min` tells the first of several.
    place = min(places, key=lambda known: prices[known])
    return prices[place], [(place >> (many - 1 - index)) & 1 for index in range(many)]
