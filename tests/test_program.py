"""Programs, solutions and values (points 602 and 603)."""

import random

from tests import programs
from tests.cases import Case, spoil
from tests.programs import MILLION, pair, pairs, random_programs, some_fraction
from trunkweb.errors import BadRelation, OutOfRange, TooMany, WrongSize
from trunkweb.programs.program import Program, is_solution, value_of


class Programs(Case):
    def test_numbers_of_variables_and_rows(self):
        for many in (1, 2, 39, 40):
            for rows in (0, 1, 79, 80):
                program = Program(list(range(many)), [([1] * many, "least", k) for k in range(rows)])
                self.assertEqual(program.count(), many)
                self.assertEqual(program.prices(), list(range(many)))
                self.assertEqual(program.rows(), [([1] * many, "least", k) for k in range(rows)])
        for many in (0, 41, 42, 200):
            self.fails(OutOfRange, many, Program, [1] * many, [])
        for rows in (81, 82, 300):
            self.fails(TooMany, rows, Program, [1], [([1], "most", 0)] * rows)

    def test_the_order_of_errors(self):
        good, short, wrong, both = ([1, 2], "most", 3), ([1], "most", 3), ([1, 2], "more", 3), ([1, 2, 3], "", 3)
        self.fails(OutOfRange, 0, Program, [], [short] * 81)
        self.fails(OutOfRange, 41, Program, [1] * 41, [both] * 81)
        self.fails(TooMany, 81, Program, [1, 2], [short] * 81)
        self.fails(WrongSize, 1, Program, [1, 2], [good, short, wrong])
        self.fails(BadRelation, 1, Program, [1, 2], [good, wrong, short])
        self.fails(WrongSize, 2, Program, [1, 2], [good, good, both, wrong])
        self.fails(WrongSize, 0, Program, [1, 2], [([], "least", 3)])
        for text in ("", "Least", "least ", "equals", "<="):
            self.fails(BadRelation, 2, Program, [1, 2], [good, good, ([1, 2], text, 3)])

    def test_great_numbers(self):
        rows = [([MILLION, -MILLION], relation, -MILLION) for relation in programs.RELATIONS]
        program = Program([-MILLION, MILLION], rows)
        self.assertEqual((program.prices(), program.rows()), ([-MILLION, MILLION], rows))

    def test_what_is_handed_in_is_copied(self):
        prices, numbers = [1, 2], [3, 4]
        rows = [(numbers, "equal", 5)]
        program = Program(prices, rows)
        spoil(prices)
        spoil(rows)
        self.assertEqual(program.prices(), [1, 2])
        self.assertEqual(program.rows(), [([3, 4], "equal", 5)])

    def test_what_is_told_is_new(self):
        program = Program([1, 2], [([3, 4], "equal", 5), ([6, 7], "least", 8)])
        for told in (program.prices, program.rows):
            first = told()
            spoil(first)
            self.assertNotEqual(told(), first)
        self.assertEqual(program.prices(), [1, 2])
        self.assertEqual(program.rows(), [([3, 4], "equal", 5), ([6, 7], "least", 8)])
        self.assertIs(type(program.rows()[0]), tuple)
        self.assertEqual(program.count(), 2)


class Values(Case):
    def test_each_relation(self):
        for relation, told in (("least", (False, True, True)), ("most", (True, True, False)),
                               ("equal", (False, True, False))):
            program = Program([1, 1], [([2, -1], relation, 3)])
            for first, good in zip((pair(1), pair(2), pair(3)), told):
                self.assertIs(is_solution(program, [first, pair(1)]), good)

    def test_each_relation_with_fractions(self):
        for relation, told in (("least", (False, True, True)), ("most", (True, True, False)),
                               ("equal", (False, True, False))):
            program = Program([1], [([3], relation, 1)])
            for value, good in zip(((3, 10), (1, 3), (4, 11)), told):
                self.assertIs(is_solution(program, [value]), good)

    def test_values_below_zero(self):
        program = Program([1, 1], [([1, 1], "least", 0)])
        self.assertIs(is_solution(program, [(5, 1), (-1, 3)]), False)
        self.assertIs(is_solution(program, [(5, 1), (0, 1)]), True)

    def test_no_rows(self):
        self.assertIs(is_solution(Program([1], []), [(7, 3)]), True)
        self.assertIs(is_solution(Program([1], []), [(-7, 3)]), False)

    def test_another_number_of_values(self):
        program = Program([1, 2], [])
        for values in ([], [(1, 1)], [(1, 1)] * 3, [(-1, 1)] * 41):
            self.assertIs(is_solution(program, values), False)
            self.fails(WrongSize, 0, value_of, program, values)

    def test_against_the_points(self):
        dice = random.Random(211)
        good = 0
        for program in random_programs(211, 300, most=2):
            for _ in range(5):
                values = pairs(max(some_fraction(dice), dice.choice((-1, 0, 0, 0))) for _ in range(program.count()))
                told = self.steady(is_solution, program, values)
                self.assertIs(told, programs.is_solution(program, values))
                good += told
                self.assertEqual(self.steady(value_of, program, values), pair(programs.value_of(program, values)))
        self.assertGreater(good, 100)

    def test_great(self):
        program = Program([MILLION, -MILLION], [([MILLION, MILLION - 1], "equal", 1)])
        values = [(1, 2 * MILLION), (1, 2 * (MILLION - 1))]
        self.assertIs(is_solution(program, values), True)
        self.assertEqual(value_of(program, values), pair(programs.value_of(program, values)))
        self.assertIs(is_solution(program, [values[0], (1, 2 * MILLION)]), False)
