"""Papers that show which list of labels is the told one.

A judge has a method `next_labels(first)`, which returns the ascending list of the labels that the next
vertex may have behind those of the first vertices, none if all have labels; and a method
`is_shown(first, paper)`, which says whether a paper without cases is accepted.
"""


def is_accepted(judge, first, paper):
    """Return whether a paper is accepted for the labels of the first vertices."""
    if paper[0] != "cases":
        return judge.is_shown(first, paper)
    labels = judge.next_labels(first)
    if not labels or len(labels) != len(paper[1]):
        return False
    for label, part in zip(labels, paper[1]):
        if not is_accepted(judge, first + [label], part):
            return False
    return True


def is_enough(first, number, told, price):
    """Return whether a number that no list with these first labels goes below shows that none is better."""
    if number > price or first == told:
        return True
    return first > told[:len(first)] and number >= price


def price_between(edges, labels):
    """Return the sum of the prices of the edges whose ends both have labels, different ones."""
    many = len(labels)
    return sum([price for u, v, price in edges if u < many and v < many and labels[u] != labels[v]])
