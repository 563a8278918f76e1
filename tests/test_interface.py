"""Everything of the interface stands in the file under which the document lists it."""

import importlib
import inspect
import unittest

FUNCTIONS = {
    "lampward.num.fractions": ["fraction", "plus", "minus", "times", "over", "total", "less", "floor", "ceiling"],
    "lampward.num.writing": ["write_fraction", "read_fraction"],
    "lampward.net.grid": ["is_name"],
    "lampward.net.cases": ["cases", "grid_of"],
    "lampward.net.islands": ["islands", "island_at"],
    "lampward.flow.solving": ["solve"],
    "lampward.flow.flows": ["heights", "flows", "factors"],
    "lampward.box.boxes": ["fits", "meet", "is_within"],
    "lampward.box.points": ["is_even", "even_point"],
    "lampward.box.changing": ["widen", "draw_in"],
    "lampward.loss.taking": ["after"],
    "lampward.loss.harms": ["harms", "harmless"],
    "lampward.worst.sums": ["sum_of", "bound"],
    "lampward.worst.greatest": ["greatest"],
    "lampward.grant.watches": ["watches_of", "watches"],
    "lampward.grant.granting": ["grant"],
    "lampward.grant.proving": ["prove", "check"],
    "lampward.reach.drifting": ["goes", "reach"],
    "lampward.reach.keeping": ["kept"],
    "lampward.text.grids": ["write_grid", "read_grid"],
    "lampward.text.boxes": ["write_box", "read_box"],
    "lampward.text.proofs": ["write_proof", "read_proof"],
    "lampward.desk.rebuilding": ["rebuild"],
    "lampward.plan.planning": ["plan"],
    "lampward.plan.checking": ["check_plan"],
}
CLASSES = {
    "lampward.errors": [
        "LampwardError", "ZeroBottom", "BadGrid", "NoSuch", "Uneven", "BadBox", "Misfit", "EmptyBox",
        "NotGranted", "Outside", "NoPoint", "NothingToUndo", "BadText",
    ],
    "lampward.net.grid": ["Line", "Unit", "Load", "Grid"],
    "lampward.box.boxes": ["Box"],
    "lampward.loss.taking": ["After"],
    "lampward.grant.watches": ["Watch"],
    "lampward.grant.granting": ["Refusal"],
    "lampward.desk.desk": ["Desk"],
}
METHODS = {
    ("lampward.box.boxes", "Box"): ["holds"],
    ("lampward.desk.desk", "Desk"): [
        "now", "lost", "point", "box", "see", "ask", "lose", "mend", "sure", "alarms", "undo", "journal",
    ],
}


class Interface(unittest.TestCase):
    def assert_defined(self, module, name, is_kind):
        found = getattr(importlib.import_module(module), name)
        self.assertTrue(is_kind(found), name)
        self.assertEqual(found.__module__, module, name)

    def test_functions(self):
        for module, names in FUNCTIONS.items():
            for name in names:
                self.assert_defined(module, name, inspect.isfunction)

    def test_classes(self):
        for module, names in CLASSES.items():
            for name in names:
                self.assert_defined(module, name, inspect.isclass)

    def test_methods_stand_in_the_class_itself(self):
        for (module, name), methods in METHODS.items():
            found = getattr(importlib.import_module(module), name)
            for method in methods:
                self.assertIn(method, vars(found))
