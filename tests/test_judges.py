"""Multipliers, and the checks of how a program ends (points 604 to 606)."""

import random
from fractions import Fraction

from tests import programs
from tests.cases import Case
from tests.programs import changed_values, pair, pairs, random_programs, some_fraction
from trunkweb.errors import WrongSize
from trunkweb.programs import judges
from trunkweb.programs.program import Program
from trunkweb.programs.ranks import rank


class Multipliers(Case):
    def test_against_the_points(self):
        dice = random.Random(221)
        fit = 0
        for program in random_programs(221, 300):
            for _ in range(4):
                multipliers = pairs(some_fraction(dice, 2) for _ in program.rows())
                told = self.steady(judges.are_fit, program, multipliers)
                self.assertIs(told, programs.are_fit(program, multipliers))
                fit += told
                loads = self.steady(judges.loads, program, multipliers)
                self.assertEqual(loads, pairs(programs.loads(program, multipliers)))
                gain = self.steady(judges.gain, program, multipliers)
                self.assertEqual(gain, pair(programs.gain(program, multipliers)))
        self.assertGreater(fit, 100)

    def test_signs(self):
        for relation, told in (("least", (False, True, True)), ("most", (True, True, False)),
                               ("equal", (True, True, True))):
            program = Program([1], [([1], "equal", 0), ([1], relation, 2)])
            for multiplier, good in zip(((-1, 9), (0, 1), (1, 9)), told):
                self.assertIs(judges.are_fit(program, [(-3, 1), multiplier]), good)

    def test_another_number(self):
        program = Program([1, 1], [([1, 2], "equal", 3), ([1, 0], "equal", 2)])
        for multipliers in ([], [(1, 1)], [(1, 1)] * 3):
            self.assertIs(judges.are_fit(program, multipliers), False)
            self.fails(WrongSize, 0, judges.loads, program, multipliers)
            self.fails(WrongSize, 0, judges.gain, program, multipliers)

    def test_no_rows(self):
        program = Program([4, 5], [])
        self.assertIs(judges.are_fit(program, []), True)
        self.assertEqual(judges.loads(program, []), [(0, 1), (0, 1)])
        self.assertEqual(judges.gain(program, []), (0, 1))
        self.assertIs(judges.are_fit(program, [(0, 1)]), False)


class Least(Case):
    # The least value is 5, at (1, 1), shown by the multipliers 1/3 and 4/3.
    program = Program([2, 3], [([2, 1], "least", 3), ([1, 2], "least", 3)])
    values = [(1, 1), (1, 1)]
    multipliers = [(1, 3), (4, 3)]

    def told(self, program=None, value=(5, 1), values=None, multipliers=None):
        program = program or self.program
        values = self.values if values is None else values
        multipliers = self.multipliers if multipliers is None else multipliers
        told = self.steady(judges.check_least, program, value, values, multipliers)
        self.assertIs(told, programs.shows_least(program, value, values, multipliers))
        return told

    def test_good(self):
        self.assertIs(self.told(), True)

    def test_no_solution(self):
        self.assertIs(self.told(values=[(5, 2), (0, 1)]), False)
        # The values below 0 have the value 5 and fulfil both rows.
        self.assertIs(self.told(Program([1, 0], [([1, 0], "most", 9)]), (-1, 1), [(-1, 1), (1, 1)], [(0, 1)]), False)

    def test_not_the_value(self):
        self.assertIs(self.told(value=(4, 1)), False)
        self.assertIs(self.told(value=(51, 10)), False)

    def test_not_least(self):
        self.assertIs(self.told(value=(6, 1), values=[(0, 1), (3, 1)]), False)
        self.assertIs(self.told(value=(6, 1), values=[(3, 1), (0, 1)], multipliers=[(0, 1), (2, 1)]), False)

    def test_a_gain_below_the_value(self):
        self.assertIs(self.told(multipliers=[(0, 1), (3, 2)]), False)
        self.assertIs(self.told(multipliers=[(0, 1), (0, 1)]), False)

    def test_a_load_above_the_price(self):
        self.assertIs(self.told(multipliers=[(1, 1), (2, 3)]), False)
        self.assertIs(self.told(multipliers=[(0, 1), (5, 3)]), False)

    def test_not_fit(self):
        # Loads and gain are right, but a row "most" has a multiplier above 0.
        program = Program([1], [([1], "most", 2)])
        self.assertIs(self.told(program, (2, 1), [(2, 1)], [(1, 1)]), False)
        self.assertIs(self.told(Program([1], [([1], "equal", 2)]), (2, 1), [(2, 1)], [(1, 1)]), True)
        program = Program([-1], [([1], "least", 2)])
        self.assertIs(self.told(program, (-2, 1), [(2, 1)], [(-1, 1)]), False)

    def test_other_sizes(self):
        for values in changed_values(self.values):
            self.told(values=values)
        for multipliers in changed_values(self.multipliers):
            self.told(multipliers=multipliers)
        self.assertIs(self.told(values=[]), False)
        self.assertIs(self.told(multipliers=[]), False)


class NoneAndEndless(Case):
    def none(self, program, multipliers):
        told = self.steady(judges.check_none, program, multipliers)
        self.assertIs(told, programs.shows_none(program, multipliers))
        return told

    def endless(self, program, values, ray):
        told = self.steady(judges.check_endless, program, values, ray)
        self.assertIs(told, programs.is_solution(program, values) and programs.is_ray(program, ray))
        return told

    def test_none(self):
        program = Program([1, 1], [([1, 1], "least", 3), ([1, 1], "most", 2)])
        self.assertIs(self.none(program, [(1, 1), (-1, 1)]), True)
        self.assertIs(self.none(program, [(1, 7), (-1, 7)]), True)
        self.assertIs(self.none(program, [(1, 1), (-3, 2)]), False)
        self.assertIs(self.none(program, [(1, 1), (-5, 4)]), True)
        self.assertIs(self.none(program, [(0, 1), (0, 1)]), False)
        self.assertIs(self.none(program, [(2, 1), (-1, 1)]), False)
        for multipliers in changed_values([(1, 1), (-1, 1)]):
            self.none(program, multipliers)

    def test_none_with_multipliers_that_are_not_fit(self):
        self.assertIs(self.none(Program([1], [([-1], "most", 2)]), [(1, 1)]), False)
        self.assertIs(self.none(Program([1], [([1], "least", -2)]), [(-1, 1)]), False)
        self.assertIs(self.none(Program([1], [([1], "equal", -2)]), [(-1, 1)]), True)

    def test_none_does_not_look_at_prices(self):
        program = Program([-9], [([1], "most", -1)])
        self.assertIs(self.none(program, [(-1, 1)]), True)

    def test_endless(self):
        program = Program([-1, 1], [([1, -1], "most", 1), ([1, -2], "least", -4)])
        self.assertIs(self.endless(program, [(0, 1), (0, 1)], [(1, 1), (1, 1)]), False)
        self.assertIs(self.endless(program, [(0, 1), (0, 1)], [(2, 1), (1, 1)]), False)
        program = Program([-2, 1], [([1, -1], "most", 1), ([1, -2], "least", -4)])
        self.assertIs(self.endless(program, [(0, 1), (0, 1)], [(1, 1), (1, 1)]), False)
        program = Program([-2, 1], [([1, -1], "most", 1), ([1, 2], "least", 4)])
        good, ray = [(2, 1), (1, 1)], [(1, 1), (1, 1)]
        self.assertIs(self.endless(program, good, ray), True)
        self.assertIs(self.endless(program, [(0, 1), (0, 1)], ray), False)
        self.assertIs(self.endless(program, good, [(0, 1), (0, 1)]), False)
        self.assertIs(self.endless(program, good, [(2, 1), (1, 1)]), False)
        self.assertIs(self.endless(program, good, [(1, 1), (2, 1)]), False)
        for other in changed_values(good):
            self.endless(program, other, ray)
        for other in changed_values(ray):
            self.endless(program, good, other)

    def test_a_ray_below_zero(self):
        program = Program([1, 1], [([1, 0], "most", 5)])
        self.assertIs(self.endless(program, [(0, 1), (0, 1)], [(-1, 1), (0, 1)]), False)

    def test_a_ray_with_noughts(self):
        program = Program([-1, 1, 0], [([-1, 0, 1], "most", 5)])
        start = [(0, 1)] * 3
        self.assertIs(self.endless(program, start, [(1, 9), (0, 1), (0, 1)]), True)
        self.assertIs(self.endless(program, start, [(1, 9), (0, 1), (-1, 9)]), False)
        self.assertIs(self.endless(program, start, [(1, 9), (1, 9), (0, 1)]), False)
        self.assertIs(self.endless(program, start, [(0, 1), (0, 1), (0, 1)]), False)

    def test_a_ray_with_rows_equal(self):
        program = Program([-1, 0], [([1, -1], "equal", 3)])
        self.assertIs(self.endless(program, [(3, 1), (0, 1)], [(1, 2), (1, 2)]), True)
        self.assertIs(self.endless(program, [(3, 1), (0, 1)], [(1, 2), (1, 3)]), False)


class Vertices(Case):
    def test_against_the_points(self):
        dice = random.Random(222)
        counts = [0, 0]
        for program in random_programs(222, 500, (1, 4), (0, 5), 2):
            for _ in range(6):
                values = pairs(abs(dice.choice((0, 0, some_fraction(dice, 3, 2)))) for _ in range(program.count()))
                told = self.steady(judges.is_vertex, program, values)
                self.assertIs(told, programs.is_vertex(program, values))
                if programs.is_solution(program, values):
                    counts[told] += 1
        self.assertGreater(min(counts), 100)

    def test_corners_and_middles(self):
        # A square cut off at a corner.
        program = Program([1, 1], [([1, 0], "most", 2), ([0, 1], "most", 2), ([1, 1], "most", 3)])
        corners = [(0, 0), (2, 0), (2, 1), (1, 2), (0, 2)]
        for one in corners:
            self.assertIs(judges.is_vertex(program, pairs(one)), True)
            for two in corners:
                if one != two:
                    middle = [Fraction(a + b, 2) for a, b in zip(one, two)]
                    self.assertIs(judges.is_vertex(program, pairs(middle)), False)

    def test_no_solution_is_no_vertex(self):
        program = Program([1, 1], [([1, 1], "most", 3), ([1, -1], "equal", 0)])
        self.assertIs(judges.is_vertex(program, pairs((2, 2))), False)
        self.assertIs(judges.is_vertex(program, pairs((1, 0))), False)
        self.assertIs(judges.is_vertex(program, pairs((-1, -1))), False)
        self.assertIs(judges.is_vertex(program, pairs((0,))), False)
        self.assertIs(judges.is_vertex(program, []), False)
        self.assertIs(judges.is_vertex(program, pairs((1, 1))), False)
        self.assertIs(judges.is_vertex(program, pairs((0, 0))), True)
        self.assertIs(judges.is_vertex(program, [(3, 2), (3, 2)]), True)

    def test_rows_that_rest_on_others(self):
        program = Program([1, 1, 1], [([1, 1, 0], "equal", 2), ([2, 2, 0], "equal", 4), ([3, 3, 0], "most", 6)])
        self.assertIs(judges.is_vertex(program, pairs((1, 1, 0))), False)
        self.assertIs(judges.is_vertex(program, pairs((2, 0, 0))), True)
        self.assertIs(judges.is_vertex(program, pairs((2, 0, 1))), False)

    def test_rank(self):
        dice = random.Random(223)
        self.assertEqual(rank([]), 0)
        self.assertEqual(rank([[], []]), 0)
        for _ in range(500):
            many = dice.randint(1, 6)
            rows = [[dice.choice((0, 0, dice.randint(-3, 3))) for _ in range(many)] for _ in range(dice.randint(0, 7))]
            rows += [[a + b for a, b in zip(*dice.choices(rows, k=2))] for _ in range(2) if rows]
            dice.shuffle(rows)
            self.assertEqual(self.steady(rank, rows), programs.rank(rows))
        rows = [[dice.randint(-programs.MILLION, programs.MILLION) for _ in range(40)] for _ in range(80)]
        self.assertEqual(rank(rows), 40)
        self.assertEqual(rank(rows[:30]), 30)
