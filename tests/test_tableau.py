"""The tableau of the simplex method (point 605): rows that are put in one by one, and goals that tell nothing."""

import random

from tests import programs
from tests.cases import Case
from trunkweb.programs.program import Program
from trunkweb.programs.tableau import Tableau


def tableau_of(prices, rows):
    """A tableau with one goal and rows "most" and "equal"."""
    tableau = Tableau([prices])
    for numbers, relation, bound in rows:
        tableau.add_row(numbers, bound, relation == "equal")
    return tableau


class Fulfilling(Case):
    def fulfil(self, tableau, prices, rows):
        """Fulfil rows, and test what is told by point 605; return whether there is a solution."""
        program = Program(prices, rows)
        broken = tableau.fulfil()
        if broken is not None:
            multipliers = [(-n, d) for n, d in tableau.line_weights(broken)]
            self.assertTrue(programs.shows_none(program, multipliers))
            return False
        values = tableau.solution()
        multipliers = [(-n, d) for n, d in tableau.goal_weights()]
        value = programs.pair(programs.value_of(program, values))
        self.assertTrue(programs.shows_least(program, value, values, multipliers))
        self.assertTrue(programs.is_vertex(program, values))
        return True

    def test_goals_that_go_round_by_the_farthest_way(self):
        # All prices are 0: where the line that is broken most is always mended, this never ends.
        rows = [([-23, -9, 0, -18], "most", -28), ([4, 23, 10, 5], "most", -1), ([-4, -12, -2, -4], "most", 4),
                ([19, -15, 9, -16], "most", 29), ([4, -24, -14, -6], "most", -20), ([-26, 14, -21, -29], "most", 21)]
        self.assertFalse(self.fulfil(tableau_of([0] * 4, rows), [0] * 4, rows))
        rows = [([50, 50, 2, -20, -58], "most", -45), ([-2, 22, -26, 58, -55], "most", -4),
                ([16, -20, 50, -6, 29], "most", 54), ([-5, -45, 56, 34, 50], "most", -15),
                ([-47, -13, -5, -56, -58], "most", 48)]
        self.fulfil(tableau_of([0] * 5, rows), [0] * 5, rows)

    def test_prices_of_0(self):
        dice = random.Random(331)
        counts = [0, 0]
        for program in programs.random_programs(331, 800, (1, 6), (0, 8), relations=("most", "most", "equal")):
            prices = [dice.choice((0, 0, 1)) for _ in range(program.count())]
            counts[self.fulfil(tableau_of(prices, program.rows()), prices, program.rows())] += 1
        self.assertGreater(min(counts), 100)

    def test_rows_that_come_later(self):
        counts = [0, 0]
        for program in programs.random_programs(332, 500, (1, 5), (1, 8), relations=("most", "most", "equal")):
            prices = [abs(price) for price in program.prices()]
            tableau = Tableau([prices])
            rows = program.rows()
            for k, (numbers, relation, bound) in enumerate(rows):
                tableau.add_row(numbers, bound, relation == "equal")
                good = self.fulfil(tableau, prices, rows[:k + 1])
                counts[good] += 1
                if not good:
                    break
        self.assertGreater(min(counts), 100)
