"""The interface: each name stands in its module, with its arguments, and is defined there."""

import importlib
import inspect
import unittest

from trunkweb.networks.network import Network
from trunkweb.places.order import Order
from trunkweb.prices.session import Session
from trunkweb.programs.program import Program

FUNCTIONS = {
    "trunkweb.networks.texts": ["write_network(network)", "read_network(text)"],
    "trunkweb.networks.paths": [
        "least_prices(network, start, arcs)", "told_path(network, start, goal, arcs)",
        "check_path(network, start, goal, path, numbers, arcs)", "distances(network)", "components(network)"],
    "trunkweb.flows.flow": [
        "is_flow(network, start, goal, flow, arcs)", "out_of(network, vertex, flow, arcs)",
        "capacity(network, side, arcs)", "greatest_flow(network, start, goal, arcs)",
        "near_side(network, start, goal, arcs)", "far_side(network, start, goal, arcs)",
        "check_flow(network, start, goal, flow, side, arcs)"],
    "trunkweb.flows.tight": ["tight_edges(network, start, goal, arcs)", "bottlenecks(network, start, goal, arcs)"],
    "trunkweb.flows.packings": [
        "packing(network, start, goal, arcs)", "check_packing(network, start, goal, rows, side, arcs)",
        "disjoint_paths(network, start, goal, arcs)", "check_disjoint(network, start, goal, paths, edges, arcs)"],
    "trunkweb.flows.costs": [
        "cheapest_flow(network, capacities, start, goal, amount)",
        "check_cheapest(network, capacities, start, goal, flow, potentials)",
        "cost_steps(network, capacities, start, goal)"],
    "trunkweb.flows.cuttrees": [
        "cut_tree(network)", "check_tree(network, tree, flows)", "tree_side(size, tree, number)",
        "least_between(size, tree, one, two)", "least_cut(network)"],
    "trunkweb.trees.spanning": [
        "told_forest(network)", "forest_price(network, numbers)", "check_forest(network, numbers)",
        "count_forests(network)", "count_least_forests(network)"],
    "trunkweb.trees.arborescences": [
        "told_arborescence(network, root)", "cut_off(network, root)", "packing(network, root)",
        "check_arborescence(network, root, numbers, pairs)"],
    "trunkweb.steiner.trees": [
        "told_tree(network, terminals)", "tree_table(network, terminals)",
        "check_tree(network, terminals, tree, table)", "check_no_tree(network, terminals, table)",
        "price_of(network, numbers)"],
    "trunkweb.steiner.arborescences": [
        "told_arborescence(network, root, terminals)", "arborescence_table(network, root, terminals)",
        "check_arborescence(network, root, terminals, arcs, table)",
        "check_no_arborescence(network, root, terminals, table)"],
    "trunkweb.steiner.reductions": [
        "reduction(network, terminals)", "check_reduction(network, terminals, rows)",
        "rest_of(network, terminals, rows)", "lead_back(origins, numbers)"],
    "trunkweb.forests.forests": [
        "told_forest(network, pairs)", "forest_table(network, pairs)", "check_forest(network, pairs, forest, table)",
        "check_no_forest(network, pairs, table)"],
    "trunkweb.forests.moats": [
        "total(moats)", "are_good(network, pairs, moats)", "are_good_for_prizes(network, root, prizes, moats)"],
    "trunkweb.forests.growing": [
        "quick_forest(network, pairs)", "check_quick_forest(network, pairs, forest, moats)"],
    "trunkweb.forests.prizes": [
        "cost(network, root, prizes, choice)", "told_choice(network, root, prizes)",
        "choice_table(network, root, prizes)", "check_choice(network, root, prizes, choice, table)",
        "quick_choice(network, root, prizes)", "check_quick_choice(network, root, prizes, choice, moats)"],
    "trunkweb.programs.fractions": [
        "fraction(numerator, denominator)", "is_fraction(pair)", "plus(first, second)", "minus(first, second)",
        "times(first, second)", "over(first, second)", "is_less(first, second)", "floor(pair)", "ceiling(pair)",
        "added(fractions)"],
    "trunkweb.programs.program": ["is_solution(program, values)", "value_of(program, values)"],
    "trunkweb.programs.judges": [
        "are_fit(program, multipliers)", "loads(program, multipliers)", "gain(program, multipliers)",
        "check_least(program, value, values, multipliers)", "check_none(program, multipliers)",
        "check_endless(program, values, ray)", "is_vertex(program, values)"],
    "trunkweb.programs.simplex": ["solve(program)"],
    "trunkweb.programs.cutting": [
        "cut_bound(network, arcs, root, terminals)",
        "check_cut_bound(network, arcs, root, terminals, bound, certificate)"],
    "trunkweb.cases.bounds": [
        "case_bound(program, fixing, multipliers)", "shows_none(program, fixing, multipliers)",
        "closes(program, fixing, multipliers, value, told)"],
    "trunkweb.cases.trees": [
        "fulfils(program, told)", "price_of(program, told)", "check_first(program, value, told, tree)",
        "check_no_list(program, tree)"],
    "trunkweb.cases.search": ["first_best(program)"],
    "trunkweb.cases.covers": [
        "cover_program(size, sets)", "quick_cover(size, sets)", "cover_factor(size, sets)",
        "check_shares(size, sets, taken, shares)", "cover_bound(size, sets, shares)"],
    "trunkweb.places.growth": ["grow(order)", "is_fair(order, dual)", "dual_sum(dual)"],
    "trunkweb.places.cases": [
        "told_opening(order)", "opening_cases(order)", "check_opening(order, numbers, tree)"],
    "trunkweb.places.choices": [
        "told_choice(order, most)", "choice_cost(order, numbers)", "choice_cases(order, most)",
        "check_choice(order, most, numbers, tree)"],
    "trunkweb.multicuts.isolating": [
        "isolating_cut(network, terminals, number)", "check_isolating(network, terminals, number, flow, side)",
        "group_value(network, groups, number, flow)"],
    "trunkweb.multicuts.multiway": [
        "price_of(network, labels)", "quick_multiway(network, terminals)", "multiway_bound(network, terminals)",
        "check_bound(network, terminals, flows, bound)", "least_multiway(network, terminals)",
        "check_multiway(network, terminals, labels, price, paper)"],
    "trunkweb.multicuts.parts": [
        "quick_parts(network, k)", "parts_bound(network, k)", "least_parts(network, k)",
        "check_parts(network, k, labels, price, paper)"],
    "trunkweb.multicuts.vertices": [
        "least_vertex_cut(network, weights, start, goal)", "nearest_vertex_cut(network, weights, start, goal)",
        "check_vertex_cut(network, weights, start, goal, cut, rows)", "connectivity(network)", "weakest(network)"],
    "trunkweb.prices.tasks": [
        "answer(network, task)", "least_price(network, task)", "serves(network, task, numbers)"],
    "trunkweb.prices.ranges": ["price_range(network, task, number)", "rival(network, task, number)"],
}
CLASSES = [
    (Network, "(size, edges)", [
        "size(self)", "edges(self)", "around(self, vertex)", "leaving(self, vertex)", "entering(self, vertex)",
        "other_end(self, number, vertex)", "with_price(self, number, price)"]),
    (Program, "(prices, rows)", ["count(self)", "prices(self)", "rows(self)"]),
    (Order, "(network, sites, clients)", [
        "openings(self)", "ways(self)", "cost(self, numbers)", "goes(self, numbers)"]),
    (Session, "(network, tasks)", [
        "set_price(self, number, price)", "answers(self)", "prices(self)", "network(self)", "undo(self)",
        "copy(self)"]),
]


class Interface(unittest.TestCase):
    def test_functions(self):
        for module, calls in FUNCTIONS.items():
            for call in calls:
                with self.subTest(f"{module}.{call}"):
                    made = getattr(importlib.import_module(module), call.partition("(")[0])
                    self.assertTrue(inspect.isfunction(made))
                    self.assertEqual(made.__module__, module)
                    self.assertEqual(made.__name__ + str(inspect.signature(made)), call)

    def test_methods(self):
        for known, given, calls in CLASSES:
            self.assertEqual(str(inspect.signature(known)), given)
            for call in calls:
                with self.subTest(call):
                    made = vars(known)[call.partition("(")[0]]
                    self.assertEqual(made.__name__ + str(inspect.signature(made)), call)
