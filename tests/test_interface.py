"""The head of "The interface": names, parameters, and where each function, class and method is defined."""

import importlib
import inspect
import unittest

from tests.samples import BIG, CHAIN, NOTHING, ONE

# For each file, what it must define, with the parameters.
FUNCTIONS = {
    "forms": {
        "is_cell": ["thing"], "is_content": ["thing"], "is_name": ["thing"], "is_change": ["thing"],
        "name_of": ["number"], "number_of": ["name"]},
}
ERRORS = ("HeldError", "NoStore", "NoLot", "NoEdit", "NoContext", "NoModule", "NoWrite", "NotHeld", "TooMany",
          "InvalidText", "InvalidCommand", "NothingDone", "Noticed", "Ring")
STORE = {
    "__init__": ["self", "disk", "changes", "ties"], "empty": ["disk"], "read": ["text"], "writes": ["self", "name"],
    "row": ["self", "cell"], "ahead_of": ["self", "name"], "behind": ["self", "name"], "is_ghost": ["self", "name"],
    "with_change": ["self", "name", "writes", "*after"], "tied": ["self", "later", "earlier"],
    "written": ["self", "*names"]}
SIGNS = ("__len__", "__contains__", "__eq__", "__or__")
ATTRIBUTES = ("disk", "changes", "ties", "memory", "cells", "names", "blocks", "text")


def parameters(call):
    """The parameters of a function, all of them without default values, a starred one with its star."""
    told = []
    for parameter in inspect.signature(call).parameters.values():
        assert parameter.default is parameter.empty
        told.append({
            parameter.POSITIONAL_OR_KEYWORD: "", parameter.VAR_POSITIONAL: "*"}[parameter.kind] + parameter.name)
    return told


class TestInterface(unittest.TestCase):

    def test_functions(self):
        for file, functions in FUNCTIONS.items():
            module = importlib.import_module("heldparts." + file)
            for name, expected in functions.items():
                function = getattr(module, name)
                self.assertTrue(inspect.isfunction(function))
                self.assertEqual(function.__module__, module.__name__)
                self.assertEqual(parameters(function), expected)

    def test_errors(self):
        module = importlib.import_module("heldparts.errors")
        for name in ERRORS:
            self.assertTrue(issubclass(getattr(module, name), Exception))
            self.assertEqual(getattr(module, name).__module__, "heldparts.errors")

    def test_store(self):
        module = importlib.import_module("heldparts.stores")
        self.assertEqual(module.Store.__module__, "heldparts.stores")
        for name, expected in STORE.items():
            self.assertIn(name, vars(module.Store))
            self.assertEqual(parameters(getattr(module.Store, name)), expected)
        for name in SIGNS:
            self.assertIn(name, vars(module.Store))
        for name in ("empty", "read"):
            self.assertIsInstance(vars(module.Store)[name], classmethod)
        self.assertEqual(vars(module.Store)["MOST"], 12)

    def test_attributes_are_set_when_the_object_is_created(self):
        made = (ONE.with_change("c", ((ONE.cells[0], 1),)), ONE.tied("k", "a"), ONE.written("a"), CHAIN | NOTHING)
        for store in (ONE, CHAIN, NOTHING) + made:
            for name in ATTRIBUTES:
                self.assertIn(name, vars(store))
                self.assertIsInstance(vars(store)[name], str if name == "text" else tuple)

    def test_results_are_of_the_listed_kinds(self):
        store = CHAIN.with_change("f", (((4, 0), BIG),), "a")
        for told in (store.row((0, 0)), store.row((0, 1)), store.ahead_of("f"), store.behind("a"), store.writes("f")):
            self.assertIsInstance(told, tuple)
        for part in store.changes + store.ties + store.disk + store.memory:
            self.assertIsInstance(part, tuple)
        self.assertIs(store.is_ghost("f"), False)
