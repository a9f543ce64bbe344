"""Lists of 0s and 1s, and trees of cases (points 701, 704 and 705)."""

import random
from fractions import Fraction
from itertools import product

from tests import programs
from tests.cases import Case
from tests.programs import pair, pairs, random_programs
from tests.test_bounds import bound_of
from trunkweb.cases.bounds import closes, shows_none
from trunkweb.cases.trees import check_first, check_no_list, fulfils, price_of
from trunkweb.errors import TooMany
from trunkweb.programs.program import Program


def all_lists(program):
    """All lists of 0s and 1s, in their order."""
    return [list(told) for told in product((0, 1), repeat=program.count())]


def is_good(program, told):
    """Whether a list of 0s and 1s fulfils all rows."""
    return programs.is_solution(program, pairs(told))


def best_of(program):
    """The pair of the value and the list of the told list, or None."""
    good = [(programs.value_of(program, pairs(told)), told) for told in all_lists(program) if is_good(program, told)]
    return min(good, default=None)


def broken_row(program, told):
    """Multipliers that show that a list breaks a row; 0 for each row if it is good."""
    for k, (numbers, relation, bound) in enumerate(program.rows()):
        amount = sum(number * x for number, x in zip(numbers, told))
        if not programs.holds(relation, amount, bound):
            sign = 1 if amount < bound else -1
            return [(sign if other == k else 0, 1) for other in range(len(program.rows()))]
    return [(0, 1)] * len(program.rows())


def tree_of(program, fixing, goal, dice):
    """A tree that is right: leaves only where all variables are fixed, or where a few tries show enough."""
    rows = program.rows()
    tries = [[(0, 1)] * len(rows)]
    tries += [[pair(dice.randint(0, 3) * {"least": 1, "most": -1, "equal": dice.choice((1, -1))}[row[1]])
               for row in rows] for _ in range(3)]
    for multipliers in tries:
        if shows_none(program, fixing, multipliers):
            return ("none", multipliers)
        if goal is not None and closes(program, fixing, multipliers, *goal):
            return ("bound", multipliers)
    free = [j for j, fixed in enumerate(fixing) if fixed is None]
    if not free:
        return ("none", broken_row(program, fixing))
    j = dice.choice(free)
    low, high = (tree_of(program, fixing[:j] + [number] + fixing[j + 1:], goal, dice) for number in (0, 1))
    return ("cases", j, low, high)


def accepted(program, fixing, tree, goal):
    """Point 704, word by word."""
    if tree[0] == "cases":
        _, j, low, high = tree
        if j not in range(len(fixing)) or fixing[j] is not None:
            return False
        return all(accepted(program, fixing[:j] + [number] + fixing[j + 1:], part, goal)
                   for number, part in ((0, low), (1, high)))
    kind, multipliers = tree
    if not programs.are_fit(program, multipliers):
        return False
    if kind == "none":
        return bound_of(program, [0] * len(fixing), fixing, multipliers) > 0
    if goal is None:
        return False
    bound = bound_of(program, program.prices(), fixing, multipliers)
    least = -(-bound.numerator // bound.denominator)
    first = [fixed or 0 for fixed in fixing]
    return least > goal[0] or least == goal[0] and first >= goal[1]


def changed_trees(tree):
    """Trees that differ from the given one in one place."""
    if tree[0] == "cases":
        _, j, low, high = tree
        yield low
        yield ("cases", j, high, low)
        for other in (-1, j - 1, j + 1, 16, 99):
            yield ("cases", other, low, high)
        yield from (("cases", j, other, high) for other in changed_trees(low))
        yield from (("cases", j, low, other) for other in changed_trees(high))
    else:
        kind, multipliers = tree
        yield ("bound" if kind == "none" else "none", multipliers)
        yield (kind, multipliers[1:])
        yield (kind, multipliers + [(0, 1)])
        yield (kind, [(-n, d) for n, d in multipliers])
        yield (kind, [(0, 1)] * len(multipliers))
        yield (kind, [pair(Fraction(n, 2 * d)) for n, d in multipliers])
        yield ("cases", 0, tree, tree)


class Lists(Case):
    def test_against_the_points(self):
        good = 0
        for program in random_programs(241, 200):
            for told in all_lists(program):
                answer = self.steady(fulfils, program, told)
                self.assertIs(answer, is_good(program, told))
                good += answer
                value = self.steady(price_of, program, told)
                self.assertEqual(value, programs.value_of(program, pairs(told)))
                self.assertIs(type(value), int)
        self.assertGreater(good, 100)

    def test_lists_that_are_none(self):
        program = Program([1, 1], [([1, 1], "least", 1)])
        self.assertIs(fulfils(program, [0, 1]), True)
        for told in ([], [1], [1, 1, 1], [2, 0], [1, -1], [-1, 2], [0, 10 ** 20], [1, 2]):
            self.assertIs(fulfils(program, told), False)

    def test_each_relation(self):
        for relation, told in (("least", (False, True, True)), ("most", (True, True, False)),
                               ("equal", (False, True, False))):
            program = Program([1, 1], [([1, 1], relation, 1)])
            self.assertEqual([fulfils(program, one) for one in ([0, 0], [1, 0], [1, 1])], list(told))

    def test_many_variables(self):
        program = Program(list(range(40)), [([1] * 40, "equal", 20)])
        self.assertIs(fulfils(program, [0, 1] * 20), True)
        self.assertIs(fulfils(program, [0] * 40), False)
        self.assertEqual(price_of(program, [0, 1] * 20), 400)


class Trees(Case):
    def test_trees_that_are_right(self):
        dice = random.Random(242)
        counts = [0, 0]
        for program in random_programs(242, 400, (1, 5), (0, 5)):
            best = best_of(program)
            fixing = [None] * program.count()
            tree = tree_of(program, fixing, best, dice)
            counts[best is None] += 1
            if best is None:
                self.assertIs(self.steady(check_no_list, program, tree), True)
                for told in all_lists(program):
                    self.assertIs(check_first(program, price_of(program, told), told, tree), False)
            else:
                self.assertIs(self.steady(check_first, program, *best, tree), True)
                self.assertIs(check_no_list(program, tree), False)
        self.assertGreater(min(counts), 80)

    def test_only_the_told_list_is_accepted(self):
        dice = random.Random(243)
        seen = 0
        for program in random_programs(243, 250, (1, 4), (0, 4), 1):
            best = best_of(program)
            for goal in [None] + [(price_of(program, told), told) for told in all_lists(program)]:
                tree = tree_of(program, [None] * program.count(), goal, dice)
                if goal is None:
                    self.assertIs(check_no_list(program, tree), best is None)
                elif is_good(program, goal[1]):
                    told = check_first(program, *goal, tree)
                    self.assertIs(told, accepted(program, [None] * program.count(), tree, goal))
                    self.assertIs(told, goal == best)
                    seen += told
        self.assertGreater(seen, 100)

    def test_changed_trees(self):
        dice = random.Random(244)
        counts = [0, 0]
        for program in random_programs(244, 150, (1, 3), (1, 4), 3):
            best = best_of(program)
            fixing = [None] * program.count()
            for tree in changed_trees(tree_of(program, fixing, best, dice)):
                goal = best or (0, [0] * program.count())
                told = self.steady(check_first, program, *goal, tree)
                self.assertIs(told, best is not None and accepted(program, fixing, tree, goal))
                none = self.steady(check_no_list, program, tree)
                self.assertIs(none, accepted(program, fixing, tree, None))
                self.assertFalse(none and best)
                counts[told or none] += 1
        self.assertGreater(min(counts), 100)

    def test_another_value_or_list(self):
        program = Program([1, 1], [([1, 1], "least", 1)])
        tree = ("cases", 0, ("cases", 1, ("none", [(1, 1)]), ("bound", [(0, 1)])), ("bound", [(0, 1)]))
        self.assertIs(check_first(program, 1, [0, 1], tree), True)
        self.assertIs(check_first(program, 1, [1, 0], tree), False)
        self.assertIs(check_first(program, 2, [0, 1], tree), False)
        self.assertIs(check_first(program, 0, [0, 1], tree), False)
        self.assertIs(check_first(program, 0, [0, 0], tree), False)
        for told in ([], [1], [0, 1, 0], [0, 2], [-1, 2]):
            self.assertIs(check_first(program, 1, told, tree), False)

    def test_a_variable_that_is_fixed_before(self):
        program = Program([1, 1], [])
        leaf = ("bound", [])
        self.assertIs(check_first(program, 0, [0, 0], ("cases", 0, leaf, leaf)), True)
        self.assertIs(check_first(program, 0, [0, 0], ("cases", 0, ("cases", 1, leaf, leaf), leaf)), True)
        self.assertIs(check_first(program, 0, [0, 0], ("cases", 0, ("cases", 0, leaf, leaf), leaf)), False)
        self.assertIs(check_first(program, 0, [0, 0], ("cases", 0, leaf, ("cases", 0, leaf, leaf))), False)
        for j in (-1, 2, -2, 10 ** 20):
            self.assertIs(check_first(program, 0, [0, 0], ("cases", j, leaf, leaf)), False)

    def test_leaves_bound_do_not_show_that_there_is_no_list(self):
        program = Program([1], [([1], "least", 2)])
        self.assertIs(check_no_list(program, ("none", [(1, 1)])), True)
        self.assertIs(check_no_list(program, ("bound", [(1, 1)])), False)
        self.assertIs(check_no_list(program, ("cases", 0, ("none", [(1, 1)]), ("bound", [(9, 1)]))), False)
        self.assertIs(check_no_list(program, ("cases", 0, ("none", [(1, 1)]), ("none", [(9, 1)]))), True)

    def test_leaves_that_are_not_fit(self):
        program = Program([1], [([0], "most", 3)])
        self.assertIs(check_no_list(program, ("none", [(1, 1)])), False)
        self.assertIs(check_first(program, 0, [0], ("bound", [(1, 1)])), False)
        self.assertIs(check_first(program, 0, [0], ("none", [(1, 1)])), False)
        self.assertIs(check_first(program, 0, [0], ("bound", [(0, 1)])), True)

    def test_sixteen_variables(self):
        program = Program([1] * 16, [([1] * 16, "least", 16)])
        told = [1] * 16
        tree = ("bound", [(1, 1)])
        self.assertIs(check_first(program, 16, told, tree), False)
        for j in range(16):
            tree = ("cases", j, ("none", [(1, 1)]), tree)
        self.assertIs(check_first(program, 16, told, tree), True)
        self.assertIs(check_first(program, 16, told, ("cases", 3, tree, tree)), False)

    def test_too_many(self):
        for many in (17, 18, 40):
            program = Program([1] * many, [])
            self.fails(TooMany, many, check_first, program, 0, [5], ("bound", [(1, 1)]))
            self.fails(TooMany, many, check_no_list, program, ("cases", 99, (), ()))
