"""The tableau of the simplex method (point 605): rows that are put in one by one, and goals that tell nothing."""

import random

from tests import programs
from tests.cases import Case
from trunkweb.programs.program import Program
from trunkweb.programs.tableau import Tableau


def tableau_of(prices, rows):
    """A tableau with one goal and rows "most" and "equal"."""
    tableau = Tableau([prices])
    for numbers, relation, bound in rows:
        tableau.add_row(numbers, bound, relation == "equal")
    return tableau


class Fulfilling(Case):
    def fulfil(self, tableau, prices, rows):
        """Fulfil rows, and test what is told by point 605; return whether there is a solution."""
        program = Program(prices, rows)
        broken = tableau.fulfil()
        if broken is not None:
            multipliers = [(-n, d) for n, d in tableau.line_weights(broken)]
            self.assertTrue(programs.shows_none(program, multipliers))
            return False
        values = tableau.solution()
        multipliers = [(-n, d) for n, d in tableau.goal_weights()]
        value = programs.pair(programs.value_of(program, values))
        self.assertTrue(programs.shows_least(program, value, values, multipliers))
        self.assertTrue(programs.is_vertex(program, values))
        return True

    def test_goals_that_go_round_by_the_farthest_way(self):
        # All prices are 0: where the line that is broken most is always mended, this never ends.
        rows = [([-23, -9, 0, -18], "most", -28), ([4, 23, 10, 5], "most", -1), ([-4, -12, -2, -4], "most", 4),
                ([19, -15, 9, -16], "most", 29), ([4, -24, -14, -6], "most", -20), ([-26, 14, -21, -29], "most", 21)]
        self.assertFalse(self.fulfil(tableau_of([0] * 4, rows), [0] * 4, rows))
        rows = [([50, 50, 2, -20, -58], "most", -45), ([-2, 22, -26, 58, -55], "most", -4),
                ([16, -20, 50, -6, 29], "most", 54), ([-5, -45, 56, 34, 50], "most", -15),
                ([-47, -13, -5, -56, -58], "most", 48)]
        self.fulfil(tableau_of([0] * 5, rows), [0] * 5, rows)

    def test_prices_of_0(self):
        dice = random.Random(331)
        counts = [0, 0]
        for program in programs.random_programs(331, 800, (1, 6), (0, 8), relations=("most", "most", "equal")):
            prices = [dice.choice((0, 0, 1)) for _ in range(program.count())]
            counts[self.fulfil(tableau_of(prices, program.rows()), prices, program.rows())] += 1
        self.assertGreater(min(counts), 100)

    def test_rows_that_come_later(self):
        counts = [0, 0]
        for program in programs.random_programs(332, 500, (1, 5), (1, 8), relations=("most", "most", "equal")):
            prices = [abs(price) for price in program.prices()]
            tableau = Tableau([prices])
            rows = program.rows()
            for k, (numbers, relation, bound) in enumerate(rows):
                tableau.add_row(numbers, bound, relation == "equal")
                good = self.fulfil(tableau, prices, rows[:k + 1])
                counts[good] += 1
                if not good:
                    break
        self.assertGreater(min(counts), 100)


class Changing(Case):
    def values(self, tableau):
        """The values behind fulfilling all rows, as integers where they are, or None."""
        return tableau.fulfil() is None and [n if d == 1 else (n, d) for n, d in tableau.solution()]

    def test_copies_go_on_by_themselves(self):
        rows = [([-1, -1], "most", -3), ([1, 0], "most", 2)]
        tableau = tableau_of([1, 2], rows)
        self.assertEqual(self.values(tableau), [2, 1])
        other = tableau.copy()
        other.add_row([0, -1], -2, False)
        other.fix(0)
        self.assertEqual(self.values(other), [0, 3])
        self.assertEqual(self.values(tableau), [2, 1])
        tableau.add_row([-1, 0], -5, False)
        self.assertIs(self.values(tableau), False)
        self.assertEqual(self.values(other), [0, 3])

    def test_what_is_fixed_is_0(self):
        rows = [([-1, -1], "most", -3), ([1, 0], "most", 2), ([0, 1], "most", 2)]
        for number, told in ((0, False), (1, False), (2, [2, 1]), (3, [2, 1]), (4, [1, 2])):
            tableau = tableau_of([1, 2], rows)
            tableau.fulfil()
            tableau.fix(number)
            self.assertEqual(self.values(tableau), told)

    def test_rows_that_are_dropped(self):
        rows = [([-1, -1], "most", -3), ([1, 0], "most", 2), ([-1, -2], "most", -1), ([0, 1], "most", 9)]
        tableau = tableau_of([1, 2], rows)
        self.assertEqual(self.values(tableau), [2, 1])
        tableau.drop_rows(4)
        self.assertEqual(self.values(tableau), [2, 1])
        # The first two rows hold with equality; the other two are no more, but their numbers stay taken.
        self.assertEqual(tableau.goal_weights(), [(2, 1), (1, 1), (0, 1), (0, 1)])
        tableau.add_row([0, -1], -20, False)
        self.assertEqual(self.values(tableau), [0, 20])
        self.assertEqual(tableau.goal_weights()[-1], (2, 1))

    def test_only_rows_behind_a_number_are_dropped(self):
        tableau = tableau_of([1, 2], [([1, 0], "most", 2), ([0, 1], "most", 2)])
        tableau.drop_rows(3)
        tableau.add_row([0, -1], -5, False)
        self.assertEqual(self.values(tableau), [0, 5])
        tableau = tableau_of([1, 2], [([1, 0], "most", 2), ([0, 1], "most", 2)])
        tableau.drop_rows(4)
        tableau.add_row([0, -1], -5, False)
        self.assertIs(self.values(tableau), False)
