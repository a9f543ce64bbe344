"""The search for the told list of a 0-1 program (points 701 to 705)."""

import random
import time
import unittest

from tests.cases import Case
from tests.programs import MILLION, random_programs
from tests.test_cases import accepted, best_of
from trunkweb.cases.bounds import case_bound, shows_none
from trunkweb.cases.relaxed import relaxed
from trunkweb.cases.search import first_best, next_variable
from trunkweb.cases.trees import check_first, check_no_list
from trunkweb.errors import TooMany
from trunkweb.programs.program import Program, is_solution, value_of
from trunkweb.programs.simplex import solve


def sums_of(numbers):
    """The sums of the numbers that each list of 0s and 1s chooses, in the order of the lists."""
    sums = [0]
    for number in numbers:
        sums = [known + x for known in sums for x in (0, number)]
    return sums


def best_of_many(program):
    """The pair of the value and the list of the told list, or None; quicker than trying word by word."""
    good = range(2 ** program.count())
    for numbers, relation, bound in program.rows():
        sums = sums_of(numbers)
        good = {
            "least": [place for place in good if sums[place] >= bound],
            "most": [place for place in good if sums[place] <= bound],
            "equal": [place for place in good if sums[place] == bound],
        }[relation]
    prices = sums_of(program.prices())
    found = min([(prices[place], place) for place in good], default=None)
    if found is None:
        return None
    return found[0], [int(digit) for digit in format(found[1], f"0{program.count()}b")]


def cover_of(dice, many, rows):
    """A program of covers."""
    return Program([dice.randint(1, 30) for _ in range(many)],
                   [([int(dice.random() < 0.3) for _ in range(many)], "least", 1) for _ in range(rows)])


def knapsack_of(dice, many, rows):
    """A program with great numbers that wants much and has little room."""
    return Program([-dice.randint(1, MILLION) for _ in range(many)],
                   [([dice.randint(0, MILLION // 8) for _ in range(many)], "most", MILLION // 2)
                    for _ in range(rows)])


def mixed_of(dice, many, rows, most):
    """A program with numbers of all signs that some list fulfils."""
    told = [dice.randint(0, 1) for _ in range(many)]
    made = []
    for _ in range(rows):
        numbers = [dice.randint(-most, most) for _ in range(many)]
        amount = sum(number * x for number, x in zip(numbers, told))
        relation = dice.choice(("least", "most", "most", "equal" if rows < 4 else "least"))
        gap = {"least": -dice.randint(0, most), "most": dice.randint(0, most), "equal": 0}[relation]
        made.append((numbers, relation, amount + gap))
    return Program([dice.randint(-most, most) for _ in range(many)], made)


def fixed_sum_of(dice, many, rows):
    """A program with equations that are hard to fulfil."""
    made = []
    for _ in range(rows):
        numbers = [dice.randint(0, 99) for _ in range(many)]
        made.append((numbers, "equal", sum(numbers) // 2))
    return Program([dice.randint(-3, 3) for _ in range(many)], made)


class RelaxedPrograms(Case):
    def judge(self, program, fixing):
        """Test what is told of a program with some variables fixed."""
        many = program.count()
        known = relaxed(program)
        rows = program.rows()
        for j, number in enumerate(fixing):
            unit = [int(other == j) for other in range(many)]
            rows.append((unit, "most", 1) if number is None else (unit, "equal", number))
            if number is not None:
                known.solve()
                known = known.fixed(j, number)
        told = known.solve()
        answer = solve(Program(program.prices(), rows))
        self.assertEqual(told[0], answer[0])
        if told[0] == "none":
            self.assertTrue(shows_none(program, fixing, told[1]))
        else:
            self.assertEqual(case_bound(program, fixing, told[1]), answer[1])
            self.assertEqual(value_of(program, told[2]), answer[1])
            self.assertTrue(is_solution(Program(program.prices(), rows), told[2]))
        return told[0] == "none"

    def test_bounds_are_the_best_ones(self):
        dice = random.Random(408)
        counts = [0, 0]
        for program in random_programs(409, 400, (1, 6), (0, 8)):
            fixing = [dice.choice((0, 1, None, None)) for _ in range(program.count())]
            counts[self.judge(program, fixing)] += 1
        self.assertGreater(min(counts), 50)

    def test_what_is_fixed_leaves_the_others_alone(self):
        known = relaxed(Program([1, 2, -3], [([1, 1, 1], "least", 2)]))
        first = known.solve()
        for j, number, told in ((0, 0, [(0, 1), (1, 1), (1, 1)]), (2, 0, [(1, 1), (1, 1), (0, 1)])):
            self.assertEqual(known.fixed(j, number).solve()[2], told)
        self.assertEqual(known.solve(), first)
        self.assertEqual(first[2], [(1, 1), (0, 1), (1, 1)])

    def test_the_next_variable(self):
        self.assertEqual(next_variable([None] * 4, [(1, 3), (3, 5), (0, 1), (4, 5)]), 1)
        self.assertEqual(next_variable([None] * 3, [(1, 3), (2, 3), (1, 1)]), 0)
        self.assertEqual(next_variable([None] * 3, [(0, 1), (9, 10), (1, 1)]), 1)
        self.assertEqual(next_variable([None] * 3, [(1, 10), (4, 5), (1, 9)]), 1)
        self.assertEqual(next_variable([1, None, None], [(1, 1), (0, 1), (1, 1)]), 1)
        self.assertEqual(next_variable([1, 0, None], [(1, 1), (0, 1), (1, 1)]), 2)


class Search(Case):
    def judge(self, program, best):
        """Test what is told of a program, whose best list is known."""
        answer = first_best(program)
        self.assertIs(type(answer), tuple)
        if best is None:
            self.assertEqual((len(answer), answer[0]), (2, "none"))
            self.assertIs(check_no_list(program, answer[1]), True)
        else:
            self.assertEqual(answer[:3], ("list",) + tuple(best))
            self.assertEqual(len(answer), 4)
            self.assertIs(check_first(program, *answer[1:]), True)
        return answer

    def test_against_all_lists(self):
        counts = [0, 0]
        for program in random_programs(401, 500, (1, 6), (0, 6)):
            best = best_of(program)
            counts[best is None] += 1
            answer = self.judge(program, best)
            self.assertTrue(accepted(program, [None] * program.count(), answer[-1], best))
        self.assertGreater(min(counts), 100)

    def test_many_ties(self):
        for program in random_programs(402, 250, (3, 7), (1, 5), 1):
            self.judge(program, best_of(program))
        for program in random_programs(403, 250, (3, 7), (1, 3), 2):
            program = Program([0] * program.count(), program.rows())
            self.judge(program, best_of(program))

    def test_what_is_told_may_be_changed(self):
        for program in random_programs(404, 60, (1, 5), (0, 5)):
            self.steady(first_best, program)

    def test_each_list_is_a_new_one(self):
        def lists_in(value):
            if isinstance(value, list):
                yield value
            if isinstance(value, (list, tuple)):
                for item in value:
                    yield from lists_in(item)

        program = Program([1] * 6, [([2] * 6, "equal", 5)])
        found = list(lists_in(first_best(program)))
        self.assertGreater(len(found), 10)
        self.assertEqual(len({id(known) for known in found}), len(found))

    def test_without_rows(self):
        for prices in ([0], [5], [-5], [1, -1, 0], [0] * 16, [-3] * 16, [3, -4] * 8):
            told = [1 if price < 0 else 0 for price in prices]
            value = sum(price for price in prices if price < 0)
            self.judge(Program(prices, []), (value, told))

    def test_equations(self):
        program = Program([3, 1, 2], [([1, 1, 1], "equal", 2), ([1, -1, 0], "equal", 0)])
        self.judge(program, (4, [1, 1, 0]))
        self.judge(Program([1, 1, 1, 1], [([1, 1, 1, 1], "equal", 2)]), (2, [0, 0, 1, 1]))
        self.judge(Program([0, 0, 0], [([4, 2, 1], "equal", 5)]), (0, [1, 0, 1]))
        self.judge(Program([7], [([0], "equal", 0)]), (0, [0]))

    def test_rows_that_nothing_fulfils(self):
        for rows in ([([1, 1], "least", 3)], [([1, 1], "most", -1)], [([2, 2], "equal", 3)],
                     [([0, 0], "equal", 1)], [([1, 1], "least", 2), ([1, 0], "most", 0)]):
            self.judge(Program([1, -1], rows), None)
            self.judge(Program([1, -1], [([1, 1], "least", 0)] * 40 + rows), None)

    def test_prices_below_0(self):
        program = Program([-5, -4, -3], [([2, 3, 1], "most", 5)])
        self.judge(program, (-9, [1, 1, 0]))
        program = Program([-5, -4, -3], [([4, 3, 1], "most", 4), ([1, 1, 1], "least", 2)])
        self.judge(program, (-7, [0, 1, 1]))

    def test_the_example(self):
        program = Program([2, 3, 4], [([1, 1, 0], "least", 1), ([0, 1, 1], "least", 1)])
        self.assertEqual(first_best(program)[:3], ("list", 3, [0, 1, 0]))

    def test_greatest_numbers(self):
        for many in (1, 2, 5, 16):
            rows = [([MILLION] * many, "least", MILLION), ([-MILLION] * many, "most", -MILLION)]
            self.judge(Program([MILLION] * many, rows), (MILLION, [0] * (many - 1) + [1]))
            self.judge(Program([-MILLION] * many, rows), (-MILLION * many, [1] * many))
            self.judge(Program([1] * many, rows + [([-MILLION] * many, "least", 0)]), None)

    def test_sixteen_variables(self):
        dice = random.Random(405)
        programs = [cover_of(dice, 16, 12), knapsack_of(dice, 16, 3), mixed_of(dice, 16, 3, 20),
                    mixed_of(dice, 16, 8, MILLION), fixed_sum_of(dice, 16, 1), fixed_sum_of(dice, 16, 3),
                    Program([1] * 16, [([3] * 16, "least", 22)])]
        for program in programs:
            self.judge(program, best_of_many(program))

    def test_sixteen_variables_and_eighty_rows(self):
        dice = random.Random(406)
        for program in (cover_of(dice, 16, 80), knapsack_of(dice, 16, 80), mixed_of(dice, 16, 80, 9),
                        mixed_of(dice, 16, 80, MILLION // 20)):
            before = time.perf_counter()
            self.judge(program, best_of_many(program))
            self.assertLess(time.perf_counter() - before, 20)

    def test_a_program_whose_tree_is_great(self):
        # Until 8 variables are 1, or 9 of them are 0, values between 0 and 1 fulfil the row.
        self.judge(Program([1] * 14, [([2] * 14, "equal", 13)]), None)

    def test_trees_are_small_where_the_relaxed_program_is_good(self):
        # Rows over neighbours: the vertices of the relaxed program are lists of 0s and 1s.
        dice = random.Random(407)
        for sign in (1, -1):
            rows = []
            for _ in range(30):
                low, high = sorted(dice.sample(range(17), 2))
                rows.append(([int(low <= j < high) for j in range(16)], "least", 1) if sign > 0 else
                            ([int(low <= j < high) for j in range(16)], "most", 1))
            answer = first_best(Program([sign * dice.randint(1, MILLION) for _ in range(16)], rows))
            self.assertLess(str(answer[3]).count("bound") + str(answer[3]).count("none"), 20)

    def test_too_many(self):
        for many in (17, 18, 40):
            self.fails(TooMany, many, first_best, Program([1] * many, []))
            self.fails(TooMany, many, first_best, Program([1] * many, [([1] * many, "least", 50)]))


if __name__ == "__main__":
    unittest.main()
