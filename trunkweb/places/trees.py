"""Trees of cases over sites.

A judge says what leaves show in a case: it has a method `leaf(case)`, which returns a leaf that shows the
cost, or None, and a method `is_shown(case, leaf)`.
"""


def with_site(case, site, is_open):
    """Return the case in which a site is open, or closed, too."""
    after = list(case)
    after[site] = is_open
    return after


def tree_in(judge, case):
    """Return a tree that shows the cost in a case."""
    leaf = judge.leaf(case)
    if leaf is not None:
        return leaf
    site = case.index(None)
    one = tree_in(judge, with_site(case, site, True))
    return ("site", site, one, tree_in(judge, with_site(case, site, False)))


def shows(judge, case, tree):
    """Return whether a tree shows the cost in a case."""
    if tree[0] != "site":
        return judge.is_shown(case, tree)
    _, site, one, two = tree
    # A site that is not free must not come again: so no tree is gone down without end.
    if not 0 <= site < len(case) or case[site] is not None:
        return False
    return shows(judge, with_site(case, site, True), one) and shows(judge, with_site(case, site, False), two)
