"""Points 1 to 4 over the whole program: each function and each method of the interface is called."""

import importlib
import time
import unittest

from tests.cases import Case, keep
from tests.samples import great_network
from tests.test_interface import CLASSES, FUNCTIONS
from trunkweb.flows.cuttrees import cut_tree
from trunkweb.flows.flow import greatest_flow
from trunkweb.networks.network import Network
from trunkweb.networks.texts import write_network
from trunkweb.places.order import Order
from trunkweb.prices.session import Session
from trunkweb.programs.program import Program
from trunkweb.steiner.reductions import reduction

NET = Network(5, [(0, 1, 2), (1, 2, 3), (0, 2, 6), (2, 3, 1), (3, 4, 2), (1, 4, 7), (4, 0, 9)])
PROGRAM = Program([2, 3, 4], [([1, 1, 0], "least", 1), ([0, 1, 1], "least", 1), ([1, 1, 1], "most", 2)])
ORDER = Order(NET, [(0, 3), (2, 5), (4, 1)], [1, 3, 3])

# What is handed in for a parameter of this name, by the folder of the module; "" stands for all folders.
GIVEN = {
    "": {
        "network": NET, "start": 0, "goal": 3, "arcs": False, "vertex": 1, "side": [0, 1], "root": 0, "size": 5,
        "flow": [1, 1, 0, 1, 0, 0, 0], "numbers": [0, 1], "number": 1, "one": 0, "two": 3, "k": 3,
        "path": [0, 1, 3], "edges": [0, 2], "paths": [[0, 1, 3], [2, 3]], "rows": [(1, [0, 1, 3])],
        "capacities": [1, 2, 3, 1, 2, 3, 1], "amount": 1, "potentials": [0, 1, 2, 3, 4],
        "tree": cut_tree(NET)[0], "flows": cut_tree(NET)[1], "text": write_network(NET),
        "pairs": [(0, 3), (1, 4)], "moats": [([0], (1, 2)), ([3], (1, 1))], "prizes": [0, 5, 0, 9, 4],
        "program": PROGRAM, "values": [(1, 1), (0, 1), (1, 1)], "multipliers": [(1, 1), (2, 1), (0, 1)],
        "order": ORDER, "dual": [(1, 1), (2, 1), (1, 2)], "task": ("steiner", [0, 3, 4]),
        "weights": [1, 2, 1, 3, 1], "labels": [0, 0, 1, 1, 2], "terminals": [0, 3, 4], "price": 12,
    },
    "trees": {"pairs": [([1, 2], 3), ([4], 1)]},
    "steiner": {"rows": [("longer", 2, [0, 1])], "origins": [[0], [1, 2], [3]], "table": [[]] + [[0] * 5] * 3,
                "tree": [0, 1, 3, 4], "arcs": [0, 1, 3, 4]},
    "forests": {"forest": [0, 1, 3, 4], "choice": [0, 1, 3], "table": [[]] + [[0] * 5] * 15},
    "programs": {"numerator": 6, "denominator": -4, "first": (1, 2), "second": (-2, 3), "pair": (7, 3),
                 "fractions": [(1, 2), (1, 3)], "value": (6, 1), "ray": [(1, 1), (0, 1), (1, 1)],
                 "terminals": [2, 4], "bound": (3, 1),
                 "certificate": ([(0, 1)] * 14, [([2], (1, 1))], [[(0, 1)] * 14] * 2)},
    "cases": {"fixing": [None, 1, None], "value": 3, "told": [0, 1, 0],
              "tree": ("cases", 0, ("bound", [(1, 1), (2, 1), (0, 1)]), ("bound", [(0, 1)] * 3)),
              "sets": [([0, 1, 2], 4), ([2, 3], 1), ([3, 4], 3), ([], 0)], "taken": [1, 0, 2],
              "shares": [(2, 1), (2, 1), (1, 2), (1, 2), (3, 1)]},
    "places": {"numbers": [0, 2], "most": 2,
               "tree": ("site", 0, ("bound", [(1, 1), (2, 1), (1, 2)]), ("none",))},
    "multicuts": {"groups": [[0, 1], [], [4]], "flows": [[0] * 7] * 3, "bound": (0, 1), "cut": [1, 2],
                  "paper": ("cases", [("bound", [[0] * 7] * 3), ("end",), ("cases", [])])},
}
SPECIAL = {
    ("trunkweb.networks.paths", "check_path", "numbers"): [0, 2, 5, 6, None],
    ("trunkweb.flows.cuttrees", "cut_tree", "flows"): None,
    ("trunkweb.places.choices", "check_choice", "tree"):
        ("site", 0, ("bound", (1, 2), [(1, 1), (2, 1), (1, 2)]), ("none",)),
    ("trunkweb.steiner.arborescences", "check_arborescence", "table"): [[]] + [[0] * 5] * 7,
    ("trunkweb.steiner.arborescences", "check_no_arborescence", "table"): [[]] + [[0] * 5] * 7,
    ("trunkweb.forests.prizes", "check_choice", "table"): [[]] + [[0] * 5] * 7,
    ("trunkweb.multicuts.isolating", "group_value", "flow"): [0, 3, 0, 3, 3, 0, 0],
}
METHODS = {
    Network: (NET, {"around": [1], "leaving": [1], "entering": [1], "other_end": [0, 1], "with_price": [1, 5]}),
    Program: (PROGRAM, {}),
    Order: (ORDER, {"cost": [[0, 2]], "goes": [[0, 2]]}),
    Session: (Session(NET, [("path", 0, 3), ("steiner", [0, 3, 4])]), {"set_price": [1, 3]}),
}


def given_for(module, call):
    """What is handed in to a function of the interface."""
    folder = module.split(".")[1]
    name, _, names = call[:-1].partition("(")
    known = {**GIVEN[""], **GIVEN.get(folder, {})}
    return [SPECIAL.get((module, name, parameter), known[parameter]) for parameter in names.split(", ")]


def calls():
    """All functions of the interface, each with what is handed in."""
    for module, listed in FUNCTIONS.items():
        for call in listed:
            yield f"{module}.{call}", getattr(importlib.import_module(module), call.partition("(")[0]), \
                given_for(module, call)


def lists_in(value):
    """All lists and dicts in a value, itself included."""
    if isinstance(value, (list, dict)):
        yield value
    if isinstance(value, (list, tuple)):
        for item in value:
            yield from lists_in(item)


class WholeProgram(Case):
    def test_what_is_handed_in_stays_and_what_is_told_is_new(self):
        kinds = {}
        for name, call, given in calls():
            with self.subTest(name):
                answer = self.steady(call, *given)
                kinds[answer.__class__.__name__] = kinds.get(answer.__class__.__name__, 0) + 1
        self.assertLess(kinds["NoneType"], 3)
        self.assertGreater(len(kinds), 5)

    def test_no_list_is_told_twice(self):
        for name, call, given in calls():
            with self.subTest(name):
                told = list(lists_in(call(*given)))
                handed = {id(known) for known in lists_in(given)}
                self.assertEqual(len({id(known) for known in told}), len(told))
                self.assertFalse([known for known in told if id(known) in handed])

    def test_lists_may_be_used_on_both_sides(self):
        # The same lists are handed in to two calls: what the first one told is changed in between.
        for name, call, given in calls():
            with self.subTest(name):
                first = call(*given)
                kept = keep(first)
                for known in list(lists_in(first)):
                    known.clear()
                self.assertEqual(keep(call(*given)), kept)

    def test_methods(self):
        for known, _, listed in CLASSES:
            made, given = METHODS[known]
            for call in listed:
                name = call.partition("(")[0]
                if name not in ("copy", "undo"):
                    with self.subTest(f"{known.__name__}.{name}"):
                        arguments = given.get(name, [])
                        if known is Session:
                            getattr(made, name)(*arguments)
                        self.steady(getattr(made, name), *arguments)
                        told = list(lists_in(getattr(made, name)(*arguments)))
                        self.assertEqual(len({id(part) for part in told}), len(told))

    def test_all_classes_have_samples(self):
        self.assertEqual(set(METHODS), {known for known, _, _ in CLASSES})
        self.assertGreaterEqual(len(list(calls())), 133)

    def test_great_networks(self):
        network = great_network(551)
        many = len(network.edges())
        great = {
            "network": network, "flow": greatest_flow(network, 0, 3, False)[1], "capacities": [5] * many, "size": 40,
            "tree": cut_tree(network)[0], "flows": cut_tree(network)[1], "potentials": [0] * 40,
            "prizes": [0, 10 ** 6] * 5 + [0] * 30, "weights": [3] * 40, "labels": [0] * 40, "goal": 39,
            "pairs": [(0, 30), (1, 20), (5, 6), (7, 33)], "terminals": [0, 3, 9, 14, 20, 27, 33],
        }
        # These are for small networks alone; the errors are tested with them.
        rows = reduction(network, great["terminals"])
        self.assertTrue(rows)
        small = ("cut_bound", "check_cut_bound", "least_multiway", "check_multiway", "least_parts", "check_parts")
        skipped = ("cases", "places", "programs", "trunkweb.networks.texts")
        for module, listed in FUNCTIONS.items():
            for call in listed:
                name, _, names = call[:-1].partition("(")
                if name not in small and module.split(".")[1] not in skipped and "network" in names:
                    given = given_for(module, call)
                    for at, parameter in enumerate(names.split(", ")):
                        if not (module.split(".")[1] in ("trees", "steiner") and parameter in ("pairs", "tree")):
                            given[at] = great.get(parameter, given[at])
                    if name in ("rest_of", "check_reduction"):
                        given[-1] = rows
                    function = getattr(importlib.import_module(module), name)
                    with self.subTest(call):
                        before = time.perf_counter()
                        function(*given)
                        self.assertLess(time.perf_counter() - before, 30)


if __name__ == "__main__":
    unittest.main()
