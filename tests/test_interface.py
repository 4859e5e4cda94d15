"""The head of "The interface": names, parameters, and where each function, class and method is defined."""

import ast
import importlib
import inspect
import os
import unittest

from heldparts.contexts import Context
from heldparts.edits import Edit
from heldparts.keepers import Keeper
from heldparts.kinds import Join
from heldparts.views import View
from tests.module_samples import DRAWER
from tests.samples import BARE, BIG, CHAIN, NOTHING, ONE

# For each file, the functions that it must define, with their parameters as they are written.
FUNCTIONS = {
    "forms": {
        "is_cell": "thing", "is_content": "thing", "is_name": "thing", "is_change": "thing", "name_of": "number",
        "number_of": "name"},
    "lots": {
        "is_lot": "store, thing", "lots": "store", "closure": "store, names", "content": "store, lot",
        "done_cells": "store, lot"},
    "fitting": {
        "fitting": "store, seen=(), *, has=(), lacks=(), done=()",
        "fits": "store, lot, seen=(), *, has=(), lacks=(), done=()",
        "refusal_holds": "store, thing, seen=(), *, has=(), lacks=(), done=()"},
    "edits": {"shown_pairs": "store, kept"},
    "tables": {"table_holds": "edit, thing", "combined": "table, other", "lifted": "edit, context, table"},
    "strangers": {
        "stranger_holds": "edit, thing", "noticed_by": "edit, context, *, limit=500", "pruned": "edit, stranger"},
    "views": {"are_alike": "store, other, kept, *, limit=500"},
    "kinds": {},
    "reducing": {"after_row": "store, kept, row, *, limit=500", "reduced": "store, kept, *, limit=200"},
    "batches": {
        "batch_lots": "store", "batch_lines": "edit", "examine_batch": "edit", "batch_stranger_holds": "edit, thing"},
    "modules": {"history": "module, *row", "held": "module, *row"},
    "judging": {
        "first_state": "module", "next_state": "module, state, name, number", "is_good": "module, state",
        "judge": "module, *, limit=200", "paper_holds": "module, thing", "break_holds": "module, thing",
        "breaking_lots": "module, *row", "spared": "module, *, limit=200"},
    "keepers": {},
    "logs": {"audit": "store, kept, log, *, limit=500"},
    "console": {},
}
# For each class its file, and the methods that it must define itself; class methods without the class.
CLASSES = {
    "Store": ("stores", {
        "__init__": "self, disk, changes, ties", "empty": "disk", "read": "text", "writes": "self, name",
        "row": "self, cell", "ahead_of": "self, name", "behind": "self, name", "is_ghost": "self, name",
        "with_change": "self, name, writes, *after", "tied": "self, later, earlier", "written": "self, *names",
        "__len__": "self", "__contains__": "self, x", "__eq__": "self, other", "__or__": "self, other"}),
    "Context": ("contexts", {
        "__init__": "self, disk=(), changes=(), ties=()", "nothing": "", "suits": "self, store, kept",
        "around": "self, store, kept", "__len__": "self", "__eq__": "self, other"}),
    "Edit": ("edits", {
        "__init__": "self, before, after, kept=()", "rule": "self", "examine": "self, *, limit=500",
        "then": "self, other", "within": "self, context", "__eq__": "self, other", "__or__": "self, other"}),
    "View": ("views", {
        "of": "store, kept, *, limit=500", "is_within": "self, other", "added": "self, name, writes, *after",
        "released": "self, *names", "renamed": "self, old, new", "tied": "self, later, earlier", "__len__": "self",
        "__eq__": "self, other", "__or__": "self, other"}),
    "Join": ("kinds", {"__init__": "self, before, first, second, kept=()", "rule": "self"}),
    "Tie": ("kinds", {"__init__": "self, before, later, earlier, kept=()", "rule": "self"}),
    "Untie": ("kinds", {"__init__": "self, before, later, earlier, kept=()", "rule": "self"}),
    "Drop": ("kinds", {"__init__": "self, before, name, kept=()", "rule": "self"}),
    "Split": ("kinds", {"__init__": "self, before, name, new, cells, kept=()", "rule": "self"}),
    "Module": ("modules", {
        "__init__": "self, cells, handles, operations, promise", "evaluate": "self, expression, content, number=0",
        "holds": "self, test, content, number=0", "__eq__": "self, other"}),
    "Keeper": ("keepers", {
        "__init__": "self, *modules", "do": "self, module, name, number=0", "tie": "self, module, handle, other, earlier",
        "write": "self, *names", "edit": "self, edit", "broken": "self", "trial": "self", "trying": "self, action",
        "attempt": "self, *deeds"}),
    "Console": ("console", {"__init__": "self", "say": "self, command"}),
}
CLASS_METHODS = {"Store": ("empty", "read"), "Context": ("nothing",), "View": ("of",)}
ERRORS = ("HeldError", "NoStore", "NoLot", "NoEdit", "NoContext", "NoModule", "NoWrite", "NotHeld", "TooMany",
          "InvalidText", "InvalidCommand", "NothingDone", "Noticed", "Ring")
ATTRIBUTES = ("disk", "changes", "ties", "memory", "cells", "names", "blocks", "text")
PACKAGE = os.path.dirname(inspect.getfile(importlib.import_module("heldparts")))


def parameters(call):
    """The parameters of a function as they are written, without annotations."""
    return str(inspect.signature(call))[1:-1]


def defined_in(file):
    """The names of the functions and classes that a file defines at its module level."""
    with open(os.path.join(PACKAGE, file + ".py"), encoding="utf-8") as source:
        tree = ast.parse(source.read())
    return {node.name for node in tree.body if isinstance(node, (ast.FunctionDef, ast.ClassDef))}


class TestInterface(unittest.TestCase):

    def test_functions(self):
        for file, functions in FUNCTIONS.items():
            module = importlib.import_module("heldparts." + file)
            for name, expected in functions.items():
                function = getattr(module, name)
                self.assertIn(name, defined_in(file))
                self.assertTrue(inspect.isfunction(function))
                self.assertEqual(function.__module__, module.__name__)
                self.assertEqual(parameters(function), expected)

    def test_errors(self):
        module = importlib.import_module("heldparts.errors")
        for name in ERRORS:
            self.assertTrue(issubclass(getattr(module, name), Exception))
            self.assertIn(name, defined_in("errors"))

    def test_classes(self):
        for name, (file, methods) in CLASSES.items():
            found = getattr(importlib.import_module("heldparts." + file), name)
            self.assertIn(name, defined_in(file))
            for method, expected in methods.items():
                self.assertIn(method, vars(found))
                self.assertEqual(parameters(getattr(found, method)), expected)
            for method in CLASS_METHODS.get(name, ()):
                self.assertIsInstance(vars(found)[method], classmethod)
        self.assertEqual(vars(importlib.import_module("heldparts.stores").Store)["MOST"], 12)

    def test_attributes_are_set_when_the_object_is_created(self):
        made = (ONE.with_change("c", ((ONE.cells[0], 1),)), ONE.tied("k", "a"), ONE.written("a"), CHAIN | NOTHING)
        for store in (ONE, CHAIN, NOTHING) + made:
            for name in ATTRIBUTES:
                self.assertIn(name, vars(store))
                self.assertIsInstance(vars(store)[name], str if name == "text" else tuple)

    def test_attributes_of_contexts_edits_and_views(self):
        edit, view = Edit(ONE, BARE, ("k",)), View.of(ONE, ("k",))
        for thing, names in (
                (Context(), ("disk", "changes", "ties", "parts")), (Context.nothing(), ("parts",)),
                (edit, ("before", "after", "kept")), (edit.within(Context()), ("before", "after", "kept")),
                (edit.then(Edit(BARE, BARE)), ("before", "after", "kept")),
                (view, ("cells", "kept", "entries", "shown", "text")),
                (view.released("k"), ("cells", "kept", "entries", "shown", "text")),
                (view | View.of(NOTHING, ()), ("cells", "kept", "entries", "shown", "text"))):
            for name in names:
                self.assertIn(name, vars(thing))

    def test_attributes_of_modules_and_keepers(self):
        keeper = Keeper(DRAWER)
        for thing, names in (
                (DRAWER, ("cells", "handles", "operations", "promise", "start", "inputs")), (keeper, ("store", "held", "made")),
                (Join(ONE, "a", "b"), ("before", "after", "kept"))):
            for name in names:
                self.assertIn(name, vars(thing))
        keeper.do(0, "add")
        self.assertEqual((keeper.store.names, keeper.held, keeper.made), (("a", "b"), ((0, "h", "a"),), 2))

    def test_results_are_of_the_listed_kinds(self):
        store = CHAIN.with_change("f", (((4, 0), BIG),), "a")
        for told in (store.row((0, 0)), store.row((0, 1)), store.ahead_of("f"), store.behind("a"), store.writes("f")):
            self.assertIsInstance(told, tuple)
        for part in store.changes + store.ties + store.disk + store.memory:
            self.assertIsInstance(part, tuple)
        self.assertIs(store.is_ghost("f"), False)
