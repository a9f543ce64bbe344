"""The simplex method (points 605 and 606)."""

import random
from fractions import Fraction
from itertools import combinations

from tests import programs
from tests.cases import Case
from tests.programs import MILLION, RELATIONS, pair, random_programs
from trunkweb.programs import judges
from trunkweb.programs.program import Program
from trunkweb.programs.simplex import solve


def solved(rows, sides):
    """The only solution of some equations, as Fractions, or None."""
    rows = [[Fraction(number) for number in row] + [Fraction(side)] for row, side in zip(rows, sides)]
    for at in range(len(rows)):
        heads = [row for row in rows[at:] if row[at] != 0]
        if not heads:
            return None
        rows.remove(heads[0])
        rows.insert(at, [number / heads[0][at] for number in heads[0]])
        rows = [row if k == at else [a - row[at] * b for a, b in zip(row, rows[at])] for k, row in enumerate(rows)]
    return [row[-1] for row in rows]


def vertices(program):
    """All vertices: each is the only point in which some rows and some borders meet."""
    n = program.count()
    lines = [(numbers, bound) for numbers, _, bound in program.rows()]
    lines += [([int(j == k) for j in range(n)], 0) for k in range(n)]
    found = []
    for some in combinations(lines, n):
        point = solved([line[0] for line in some], [line[1] for line in some])
        if point is not None:
            values = [pair(x) for x in point]
            if programs.is_solution(program, values):
                found.append(values)
    return found


class Solver(Case):
    """A test case that tests all that is promised of what is told."""

    def solve(self, program, kind=None):
        """Test all that is promised of what is told; return it."""
        told = self.steady(solve, program)
        self.assertIs(type(told), tuple)
        if told[0] == "least":
            _, value, values, multipliers = told
            self.assertTrue(programs.shows_least(program, value, values, multipliers))
            self.assertIs(judges.check_least(program, value, values, multipliers), True)
        elif told[0] == "none":
            self.assertTrue(programs.shows_none(program, told[1]))
            self.assertIs(judges.check_none(program, told[1]), True)
        else:
            _, values, ray = told
            self.assertEqual(told[0], "endless")
            self.assertTrue(programs.is_solution(program, values) and programs.is_ray(program, ray))
            self.assertIs(judges.check_endless(program, values, ray), True)
        if told[0] != "none":
            values = told[-2]
            self.assertTrue(programs.is_vertex(program, values))
            self.assertIs(judges.is_vertex(program, values), True)
        if kind is not None:
            self.assertEqual(told[0], kind)
        return told


class Solving(Solver):
    def test_of_the_interface(self):
        program = Program([2, 3], [([2, 1], "least", 3), ([1, 2], "least", 3)])
        self.assertEqual(solve(program)[:3], ("least", (5, 1), [(1, 1), (1, 1)]))

    def test_small(self):
        kinds = {"least": 0, "none": 0, "endless": 0}
        for program in random_programs(311, 1500, (1, 5), (0, 7)):
            kinds[self.solve(program)[0]] += 1
        self.assertGreater(min(kinds.values()), 200)

    def test_against_all_vertices(self):
        for program in random_programs(312, 400, (1, 3), (0, 4), 3):
            told = self.solve(program)
            known = vertices(program)
            self.assertEqual(told[0] == "none", not known)
            if told[0] != "none":
                self.assertIn(told[-2], known)
            if told[0] == "least":
                self.assertEqual(Fraction(*told[1]), min(programs.value_of(program, values) for values in known))

    def test_one_variable(self):
        for relation in RELATIONS:
            for number in (-2, 0, 3):
                for bound in (-5, 0, 4):
                    for price in (-1, 0, 2):
                        self.solve(Program([price], [([number], relation, bound)]))

    def test_no_rows(self):
        self.assertEqual(self.solve(Program([3, 0], []), "least"), ("least", (0, 1), [(0, 1), (0, 1)], []))
        self.solve(Program([3, -1], []), "endless")

    def test_equations_that_rest_on_others(self):
        rows = [([1, 1, 0], "equal", 2), ([2, 2, 0], "equal", 4), ([0, 1, 1], "equal", 3), ([1, 2, 1], "equal", 5)]
        told = self.solve(Program([1, 2, 3], rows), "least")
        self.assertEqual(told[1], (7, 1))
        self.solve(Program([1, 2, 3], rows + [([3, 3, 0], "equal", 7)]), "none")
        self.solve(Program([1, -2, 1], rows * 3), "least")

    def test_rows_of_noughts(self):
        for relation in RELATIONS:
            self.solve(Program([1, 1], [([0, 0], relation, 0), ([1, 1], "least", 3)]), "least")
            for bound in (-1, 1):
                none = not programs.holds(relation, 0, bound)
                self.solve(Program([1, 1], [([0, 0], relation, bound)] * 2), "none" if none else "least")
                self.solve(Program([-1, 1], [([0, 0], relation, bound)]), "none" if none else "endless")

    def test_rows_twice(self):
        for program in random_programs(313, 200, (1, 4), (1, 4)):
            told = self.solve(program)[0]
            rows = program.rows()
            self.solve(Program(program.prices(), rows + rows), told)
            self.solve(Program(program.prices(), [row for row in rows for _ in range(3)]), told)

    def test_nothing_costs_anything(self):
        for program in random_programs(314, 200):
            told = self.solve(Program([0] * program.count(), program.rows()))
            self.assertNotEqual(told[0], "endless")

    def test_degenerate_ones(self):
        for program in random_programs(315, 500, (2, 6), (3, 9), 2):
            rows = [(numbers, relation, 0) for numbers, relation, _ in program.rows()]
            self.solve(Program(program.prices(), rows))
            self.solve(Program(program.prices(), rows + [([1] * program.count(), "most", 1)]))
            self.solve(Program(program.prices(), rows + [([1] * program.count(), "equal", 1)]))

    def test_some_that_can_go_round(self):
        # Those of Beale, of Hoffman and Kuhn, and of Marshall and Suurballe, times a common denominator.
        beale = [([25, -6000, -4, 900], "most", 0), ([50, -9000, -2, 300], "most", 0), ([0, 0, 1, 0], "most", 1)]
        told = self.solve(Program([-75, 15000, -2, 600], beale), "least")
        self.assertEqual(told[1], (-5, 1))
        kuhn = [([-2, -9, 1, 9], "most", 0), ([1, 3, -1, -6], "most", 0), ([2, 3, -1, -12], "most", 2)]
        self.assertEqual(self.solve(Program([-2, -3, 1, 12], kuhn), "least")[1], (-2, 1))
        marshall = [([1, -11, -5, 18], "most", 0), ([1, -3, -1, 2], "most", 0), ([1, 0, 0, 0], "most", 1)]
        self.assertEqual(self.solve(Program([-10, 57, 9, 24], marshall), "least")[1], (-1, 1))
        self.solve(Program([-10, 57, 9, 24], marshall[:2]), "endless")

    def test_one_that_goes_round_by_the_steepest_way(self):
        # Chvatal's, with the rooms of its first two rows as variables.
        rows = [([1, -11, -5, 18, 2, 0], "equal", 0), ([1, -3, -1, 2, 0, 2], "equal", 0),
                ([1, 0, 0, 0, 0, 0], "most", 1)]
        self.assertEqual(self.solve(Program([-10, 57, 9, 24, 0, 0], rows), "least")[1], (-1, 1))

    def test_great_numbers(self):
        dice = random.Random(316)
        for program in random_programs(316, 150, (1, 5), (0, 6), MILLION):
            self.solve(program)
        for _ in range(50):
            near = [([MILLION - dice.randint(0, 3), MILLION - dice.randint(0, 3)], dice.choice(RELATIONS), MILLION)
                    for _ in range(4)]
            self.solve(Program([dice.choice((-MILLION, MILLION)), MILLION], near))


class Great(Solver):
    def around(self, dice, relations, most, spare):
        """Rows for 40 variables that some chosen whole values fulfil, within a spare."""
        values = [dice.randint(0, 5) for _ in range(40)]
        rows = []
        for relation in relations:
            numbers = [dice.randint(-most, most) for _ in range(40)]
            rest = {"least": -1, "most": 1, "equal": 0}[relation] * dice.randint(0, spare)
            rows.append((numbers, relation, sum(a * b for a, b in zip(numbers, values)) + rest))
        return rows

    def test_great_ones_with_solutions(self):
        for seed, (most, spare) in enumerate(((9, 9), (MILLION, MILLION), (3, 0))):
            dice = random.Random(seed)
            relations = ["equal"] * 15 + [dice.choice(("least", "most")) for _ in range(65)]
            prices = [dice.randint(0, most) for _ in range(40)]
            self.solve(Program(prices, self.around(dice, relations, most, spare)), "least")
            prices = [dice.randint(-most, most) for _ in range(40)]
            self.solve(Program(prices, self.around(dice, relations[15:] + ["most"] * 15, most, spare)))

    def test_great_ones_without(self):
        dice = random.Random(317)
        rows = [([dice.randint(-MILLION, MILLION) for _ in range(40)], dice.choice(RELATIONS),
                 dice.randint(-MILLION, MILLION)) for _ in range(80)]
        self.solve(Program([1] * 40, rows), "none")

    def test_great_ones_without_end(self):
        dice = random.Random(318)
        rows = [([dice.randint(-9, 3) for _ in range(40)], "most", dice.randint(0, 9)) for _ in range(80)]
        self.solve(Program([-1] * 40, rows), "endless")
        rows = [([dice.randint(-3, 9) for _ in range(40)], "least", dice.randint(0, 9)) for _ in range(80)]
        self.solve(Program([dice.randint(-9, 1) for _ in range(40)], rows), "endless")

    def test_great_degenerate_ones(self):
        for seed in range(4):
            dice = random.Random(seed)
            rows = [([dice.randint(-3, 5) for _ in range(40)], "most", 0) for _ in range(79)]
            self.solve(Program([dice.randint(-9, 1) for _ in range(40)], rows + [([1] * 40, "most", 1)]), "least")
        lines = [([int(j // 6 == k) for j in range(36)], "equal", 1) for k in range(6)]
        lines += [([int(j % 6 == k) for j in range(36)], "equal", 1) for k in range(6)]
        values = self.solve(Program([(j * j * 37) % 101 for j in range(36)], lines), "least")[2]
        self.assertEqual(sorted(values), [(0, 1)] * 30 + [(1, 1)] * 6)

    def test_a_long_way_of_vertices(self):
        # The cubes of Klee and Minty.
        for n in range(1, 10):
            rows = [([2 ** (i - j + 1) if j < i else int(j == i) for j in range(n)], "most", 5 ** (i + 1))
                    for i in range(n)]
            told = self.solve(Program([-(2 ** (n - 1 - i)) for i in range(n)], rows), "least")
            self.assertEqual(told[1], (-(5 ** n), 1))
