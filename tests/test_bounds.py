"""Fixings and the bounds of multipliers under them (points 701 to 703)."""

import math
import random
from fractions import Fraction
from itertools import product

from tests import programs
from tests.cases import Case
from tests.programs import RELATIONS, pair, pairs, random_programs, some_fraction
from trunkweb.cases.bounds import case_bound, closes, shows_none
from trunkweb.errors import BadFixing, TooMany, WrongSize
from trunkweb.programs.program import Program


def bound_of(program, prices, fixing, multipliers):
    """Point 702, word by word."""
    bound = programs.gain(program, multipliers)
    for price, load, fixed in zip(prices, programs.loads(program, multipliers), fixing):
        if fixed == 1 or fixed is None and price - load < 0:
            bound += price - load
    return bound


def lists_under(fixing):
    """All lists under a fixing."""
    return [list(told) for told in product(*[(0, 1) if fixed is None else (fixed,) for fixed in fixing])]


def is_good(program, told):
    """Whether a list of 0s and 1s fulfils all rows."""
    return programs.is_solution(program, pairs(told))


def samples(seed, count, **more):
    """Programs with a fixing and multipliers, half of them fit."""
    dice = random.Random(seed)
    for program in random_programs(seed, count, **more):
        fixing = [dice.choice((0, 1, None, None)) for _ in range(program.count())]
        multipliers = pairs(some_fraction(dice, 3) for _ in program.rows())
        if dice.random() < 0.5:
            multipliers = [
                pair(abs(Fraction(*m)) * {"least": 1, "most": -1, "equal": dice.choice((1, -1))}[row[1]])
                for m, row in zip(multipliers, program.rows())
            ]
        yield program, fixing, multipliers


class Bounds(Case):
    def test_against_the_point(self):
        for program, fixing, multipliers in samples(231, 600):
            told = self.steady(case_bound, program, fixing, multipliers)
            self.assertEqual(told, pair(bound_of(program, program.prices(), fixing, multipliers)))

    def test_each_place_of_a_fixing(self):
        # The rests are 2, 0 and -3; the gain is 4.
        program = Program([3, 1, -2], [([1, 1, 1], "least", 4)])
        gain, rests = 4, (2, 0, -3)
        for fixing in product((0, 1, None), repeat=3):
            bound = gain
            for fixed, rest in zip(fixing, rests):
                bound += {0: 0, 1: rest, None: min(rest, 0)}[fixed]
            self.assertEqual(case_bound(program, list(fixing), [(1, 1)]), (bound, 1))

    def test_no_good_list_lies_below(self):
        good = 0
        for program, fixing, multipliers in samples(232, 500, most=3):
            if programs.are_fit(program, multipliers):
                bound = Fraction(*case_bound(program, fixing, multipliers))
                values = [programs.value_of(program, pairs(told)) for told in lists_under(fixing)
                          if is_good(program, told)]
                good += len(values)
                self.assertTrue(all(value >= math.ceil(bound) for value in values))
        self.assertGreater(good, 300)

    def test_multipliers_that_are_not_fit(self):
        program = Program([1], [([1], "least", 2)])
        self.assertEqual(case_bound(program, [None], [(-1, 1)]), (-2, 1))
        self.assertEqual(case_bound(program, [1], [(-1, 1)]), (0, 1))

    def test_no_rows(self):
        self.assertEqual(case_bound(Program([2, -3], []), [None, None], []), (-3, 1))
        self.assertEqual(case_bound(Program([2, -3], []), [1, 0], []), (2, 1))


class ShowsNone(Case):
    def test_against_the_point(self):
        shown = 0
        for program, fixing, multipliers in samples(233, 1500, rows=(1, 6)):
            told = self.steady(shows_none, program, fixing, multipliers)
            above = bound_of(program, [0] * program.count(), fixing, multipliers) > 0
            self.assertIs(told, programs.are_fit(program, multipliers) and above)
            if told:
                shown += 1
                self.assertFalse([one for one in lists_under(fixing) if is_good(program, one)])
        self.assertGreater(shown, 100)

    def test_at_the_border(self):
        program = Program([7, -7], [([1, 1], "least", 2)])
        self.assertIs(shows_none(program, [None, None], [(1, 1)]), False)
        self.assertIs(shows_none(program, [None, 0], [(1, 1)]), True)
        self.assertIs(shows_none(program, [1, 0], [(1, 9)]), True)
        self.assertIs(shows_none(program, [1, 1], [(1, 1)]), False)
        self.assertIs(shows_none(program, [None, 0], [(0, 1)]), False)
        self.assertIs(shows_none(program, [None, 0], [(-1, 1)]), False)

    def test_not_fit(self):
        # The bound would be 1, but the row is fulfilled by each list.
        program = Program([0], [([0], "most", 1)])
        self.assertIs(shows_none(program, [None], [(1, 1)]), False)
        program = Program([0], [([0], "equal", 1)])
        self.assertIs(shows_none(program, [None], [(1, 1)]), True)


class Closing(Case):
    def test_against_the_point(self):
        dice = random.Random(234)
        counts = [0, 0]
        for program, fixing, multipliers in samples(234, 1500):
            first = [fixed or 0 for fixed in fixing]
            least = math.ceil(bound_of(program, program.prices(), fixing, multipliers))
            for value in (least - 1, least, least + 1):
                told = dice.choice([[dice.randint(0, 1) for _ in fixing], first])
                good = programs.are_fit(program, multipliers) and (least > value or least == value and first >= told)
                answer = self.steady(closes, program, fixing, multipliers, value, told)
                self.assertIs(answer, good)
                counts[answer] += 1
        self.assertGreater(min(counts), 500)

    def test_the_first_list_at_the_border(self):
        # The bound is 5/2 under each of these fixings.
        program = Program([0, 0, 0], [([0, 0, 0], "equal", 5)])
        half = [(1, 2)]
        for fixing in ([0, 1, 0], [0, 1, None], [None, 1, None]):
            self.assertEqual(case_bound(program, fixing, half), (5, 2))
            self.assertIs(closes(program, fixing, half, 2, [1, 1, 1]), True)
            self.assertIs(closes(program, fixing, half, 4, [0, 0, 0]), False)
            self.assertIs(closes(program, fixing, half, 3, [0, 1, 0]), True)
            self.assertIs(closes(program, fixing, half, 3, [0, 0, 1]), True)
            self.assertIs(closes(program, fixing, half, 3, [0, 1, 1]), False)
            self.assertIs(closes(program, fixing, half, 3, [1, 0, 0]), False)
        self.assertIs(closes(program, [1, 0, 0], half, 3, [0, 1, 1]), True)
        self.assertIs(closes(program, [1, 0, 0], half, 3, []), True)
        self.assertIs(closes(program, [1, 0, 0], half, 3, [1, 0, 0, 0]), False)
        self.assertIs(closes(program, [1, 0, 0], half, 3, [2]), False)

    def test_a_bound_that_is_whole(self):
        program = Program([0], [([0], "equal", 4)])
        self.assertIs(closes(program, [None], [(1, 2)], 2, [0]), True)
        self.assertIs(closes(program, [None], [(1, 2)], 2, [1]), False)
        self.assertIs(closes(program, [None], [(1, 2)], 1, [1]), True)
        self.assertIs(closes(program, [None], [(-1, 2)], -2, [0]), True)
        self.assertIs(closes(program, [None], [(-1, 2)], -3, [1]), True)
        self.assertIs(closes(program, [None], [(-1, 2)], -1, [0]), False)

    def test_not_fit(self):
        self.assertIs(closes(Program([5], [([0], "most", 1)]), [None], [(9, 1)], 0, [0]), False)
        self.assertIs(closes(Program([5], [([0], "least", -1)]), [None], [(-9, 1)], 0, [0]), False)

    def test_what_is_closed_has_no_better_list(self):
        for program, fixing, multipliers in samples(235, 400):
            for value in range(-4, 5):
                told = [1] + [0] * (program.count() - 1)
                if closes(program, fixing, multipliers, value, told):
                    better = [
                        one for one in lists_under(fixing) if is_good(program, one)
                        and (programs.value_of(program, pairs(one)), one) < (value, told)
                    ]
                    self.assertEqual(better, [])


class Faults(Case):
    def calls(self):
        return ((case_bound, ()), (shows_none, ()), (closes, (0, [0])))

    def test_errors_in_their_order(self):
        for many in (17, 18, 40):
            program = Program([1] * many, [])
            for call, more in self.calls():
                for fixing in ([], [None] * many, [5] * many):
                    self.fails(TooMany, many, call, program, fixing, [(1, 1)], *more)
        program = Program([1] * 3, [([1] * 3, "least", 1)])
        for call, more in self.calls():
            for fixing in ([], [None, 0], [7, 7], [None] * 4, [3] * 17):
                self.fails(WrongSize, 0, call, program, fixing, [], *more)
            for fixing, at in (([2, 0, 0], 0), ([0, -1, 5], 1), ([1, None, 2], 2), ([None, 10 ** 20, None], 1)):
                self.fails(BadFixing, at, call, program, fixing, [], *more)
                self.fails(BadFixing, at, call, program, fixing, [(1, 1)], *more)

    def test_another_number_of_multipliers(self):
        program = Program([1, 1], [([1, 1], "least", 3)])
        for multipliers in ([], [(1, 1), (1, 1)]):
            self.fails(WrongSize, 0, case_bound, program, [None, 0], multipliers)
            self.assertIs(shows_none(program, [None, 0], multipliers), False)
            self.assertIs(closes(program, [None, 0], multipliers, -100, [1, 1]), False)
        self.assertIs(shows_none(program, [None, 0], [(1, 1)]), True)
        self.assertIs(closes(program, [None, 0], [(1, 1)], -100, [1, 1]), True)

    def test_sixteen_variables(self):
        for relation in RELATIONS:
            program = Program([1] * 16, [([1] * 16, relation, 1)])
            self.assertEqual(case_bound(program, [None] * 16, [(0, 1)]), (0, 1))
