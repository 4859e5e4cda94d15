"""Points 25 to 27: modules, their expressions, histories, and what handles hold."""

import random
import time
import unittest

from heldparts.errors import NoModule
from heldparts.modules import Module, held, history
from heldparts.stores import Store
from tests.model import assert_store
from tests.module_samples import (
    A, B, DRAWER, HEAD, JOURNAL, LOOSE, MAKE, SAFE, SLOPPY, closed, nth_name, random_body, random_expression, random_module,
    random_row, random_test, run, ties_of, truth, value)
from tests.samples import ANY, BIG, X, Y

CELLS, HANDLES, OPERATIONS, PROMISE = DRAWER.cells, DRAWER.handles, DRAWER.operations, DRAWER.promise
MODULES = tuple(random_module(seed) for seed in range(400))


def with_body(*statements):
    """Operations of which the last one has these statements."""
    return (("add", 1, ()), ("put", 4, statements))


def with_writes(*writes):
    return with_body(("put", writes, (), None))


def with_expression(part):
    return with_writes((X, part))


def with_test(part):
    return with_body(("if", part, (), ()))


WRONG_CELLS = (
    (), ((X, 2),), ((X, 2, 0, 0),), ((X, 0, 0),), ((X, 10, 0),), ((X, 2, 2),), ((X, 2, -1),), ((X, True, 0),),
    ((X, 2, False),), ((X, 2, "0"),), ((X, None, 0),), (((0, -1), 2, 0),), (((True, 0), 2, 0),), (([0, 0], 2, 0),),
    ((X, 2, 0), (X, 2, 0)), ((Y, 2, 0), (X, 2, 0)), [(X, 2, 0)], ((X, 2, 0), [Y, 2, 0]), ((X, 2, 0), None), {X: (2, 0)},
    ((X, 9, 9),), ((X, BIG, 0),), (((0,), 2, 0),), ((0, 2, 0),))
WRONG_HANDLES = (
    ("a", "a"), ("b", "a"), ("a", "b", "c", "d"), ("A",), ("",), ("abcdefghi",), (1,), (None,), ["h"], "h", ("h", ["k"]),
    {"h": 1}, None, 0, (("h",),), ("h", "k k"))
WRONG_OPERATIONS = (
    [], None, ("add", 1, ()), (("add", 1),), (("add", 1, (), ()),), (("Add", 1, ()),), (("", 1, ()),), (("add", 0, ()),),
    (("add", 5, ()),), (("add", True, ()),), (("add", "1", ()),), (("add", None, ()),), ((1, 1, ()),), (["add", 1, ()],),
    (("add", 1, ()), ("add", 1, ())), (("b", 1, ()), ("a", 1, ())), {"add": ()}, (("add", 1, None), ("aa", 1, ())),
    ((None, 1, ()),), ((("add",), 1, ()),))
WRONG_EXPRESSIONS = (
    -1, 21, True, False, None, "1", (), ("cell",), ("cell", X, X), ("cell", (9, 9)), ("cell", [0, 0]), ("cell", (0, False)),
    ("cell", {}), ("cell", None), ("input", 0), ("input", ()), ["input"], ("plus", 1), ("plus", 1, 2, 3), ("plus", 1, True),
    ("minus", -1, 0), ("times", 21, 1), ("times", 0, None), ["plus", 1, 1], ("pick", 1, 1, 1), ("pick", ("same", 0, 0), 1),
    ("pick", ("same", 0, 0), 1, 2, 3), ("pick", ("same", 0), 1, 1), ("pick", True, 1, 1), ("less", 1, 1), ("same", 1, 1),
    ("not", ("same", 0, 0)), ("Plus", 1, 1), (1,), ((),), ("plus", [], {}), BIG, -BIG, {"plus": 1}, ("divide", 1, 1),
    ("plus", ("cell", X), ("plus", 1, ("cell", (5, 5)))))
WRONG_TESTS = (
    None, True, 1, "less", (), ("less",), ("less", 1), ("less", 1, 1, 1), ("same", 1, True), ("same", -1, 1), ("not",),
    ("not", 1), ("not", True), ("not", ("same", 0, 0), 1), ("and", ("same", 0, 0)), ("and", ("same", 0, 0), 1),
    ("and", ("same", 0, 0), ("same", 0, 0), ("same", 0, 0)), ("or", ("same", 0, 0), ("same", 0, 0)), ["same", 0, 0],
    ("plus", 1, 1), ("cell", X), ("input",), ("not", ("not", ("less", 0, 21))), (None, 1, 1), {})
PUT = ("put", ((X, 1),), ("h",), "h")
WRONG_STATEMENTS = (
    None, (), 0, "put", ("put",), PUT[:3], PUT + (0,), list(PUT), ("set",) + PUT[1:], ("put", (), (), None), ("put", ((X,),), (), None),
    ("put", ((X, 1, 1),), (), None), ("put", [(X, 1)], (), None), ("put", ([X, 1],), (), None), ("put", (((9, 9), 1),), (), None),
    ("put", ((X, 1), (X, 1)), (), None), ("put", ((X, 1), (Y, 1)), (), None), ("put", ((X, 21),), (), None), ("put", ((X, True),), (), None),
    ("put", ((X, 1),), ("h", "h"), None), ("put", ((X, 1),), ("k",), None), ("put", ((X, 1),), ["h"], None), ("put", ((X, 1),), "h", None),
    ("put", ((X, 1),), None, None), ("put", ((X, 1),), (None,), None), ("put", ((X, 1),), (), "k"), ("put", ((X, 1),), (), 0),
    ("put", ((X, 1),), (), ("h",)), ("put", ((X, 1),), (), False), ("put", (((0, False), 1),), (), None), ("if", ("same", 0, 0), ()),
    ("if", ("same", 0, 0), (), (), ()), ("if", 1, (), ()), ("if", ("same", 0, 0), None, ()), ("if", ("same", 0, 0), [], ()),
    ("if", ("same", 0, 0), (), (0,)), ("if", ("same", 0, 0), (("release", "k"),), ()), ("if", ("less", 0, -1), (), ()), ("release",),
    ("release", None), ("release", "k"), ("release", ["h"]), ("release", "h", "h"), ("release", 0), ("release", {}))


class TestModule(unittest.TestCase):

    def assert_part(self, part, *arguments, **named):
        with self.assertRaises(NoModule) as caught:
            Module(*arguments, **named)
        self.assertEqual(caught.exception.part, part, arguments)
        self.assertIs(type(caught.exception.part), type(part))

    def test_attributes(self):
        module = Module(promise=PROMISE, operations=OPERATIONS, handles=HANDLES, cells=CELLS)
        self.assertIs(module.cells, CELLS)
        self.assertIs(module.handles, HANDLES)
        self.assertIs(module.operations, OPERATIONS)
        self.assertIs(module.promise, PROMISE)
        self.assertEqual(module.start, ((X, 0), (Y, 0)))
        self.assertEqual(module.inputs, (("add", 0),))
        self.assertEqual(JOURNAL.inputs, (("add", 0), ("add", 1), ("forget", 0)))
        for name in ("cells", "handles", "operations", "promise", "start", "inputs"):
            self.assertIn(name, vars(module))
        bare = Module(((X, 9, 8),), (), (), (("same", 0, 0), ()))
        self.assertEqual((bare.start, bare.inputs), (((X, 8),), ()))
        for module in MODULES:
            self.assertEqual(module.start, tuple((cell, first) for cell, _, first in module.cells))
            self.assertEqual(list(module.inputs), sorted(set(module.inputs)))
            self.assertEqual(len(module.inputs), sum(size for _, size, _ in module.operations))

    def test_equality(self):
        same = Module(CELLS, HANDLES, OPERATIONS, PROMISE)
        self.assertIs(same == DRAWER, True)
        self.assertIs(same != DRAWER, False)
        others = (
            Module(((X, 2, 0), (Y, 2, 1)), HANDLES, OPERATIONS, PROMISE), Module(CELLS, ("h", "k"), OPERATIONS, PROMISE),
            Module(CELLS, HANDLES, OPERATIONS[:0], PROMISE), Module(CELLS, HANDLES, OPERATIONS, (SAFE, (1,))), LOOSE)
        for other in others + ANY + (CELLS, (CELLS, HANDLES, OPERATIONS, PROMISE)):
            self.assertIs(DRAWER == other, False)
            self.assertIs(DRAWER != other, True)

    def test_cells(self):
        for wrong in WRONG_CELLS + ANY:
            for rest in ((HANDLES, OPERATIONS, PROMISE), (None, None, None), ((), (("add", 1, 0),), PROMISE)):
                self.assert_part("cells", wrong, *rest)
        good = Module(((X, 1, 0), ((0, 1), 9, 8), (Y, 9, 0)), (), (), (("same", 0, 0), ()))
        self.assertEqual(good.start, ((X, 0), ((0, 1), 8), (Y, 0)))
        self.assertEqual(Module((((BIG, BIG), 1, 0),), (), (), (("same", 0, 0), ())).start, (((BIG, BIG), 0),))

    def test_handles(self):
        names = [thing for thing in ANY if thing not in ((), ("a",), ("a", "b"))]
        for wrong in WRONG_HANDLES + tuple(names):
            for rest in ((OPERATIONS, PROMISE), (None, None), ((("add", 1, 0),), PROMISE)):
                self.assert_part("handles", CELLS, wrong, *rest)
        for good in ((), ("a",), ("a", "b", "abcdefgh"[:8]), ("a", "aa", "b")):
            if list(good) == sorted(good):
                self.assertEqual(Module(CELLS, good, (), PROMISE).handles, good)

    def test_operations(self):
        for wrong in WRONG_OPERATIONS + tuple(thing for thing in ANY if thing != ()):
            for promise in (PROMISE, None):
                self.assert_part("operations", CELLS, HANDLES, wrong, promise)
        for size in (1, 4):
            self.assertEqual(len(Module(CELLS, (), (("a", size, ()),), PROMISE).inputs), size)
        # A body that is none is told only behind the other operations.
        self.assert_part("operations", CELLS, HANDLES, (("a", 1, None), ("b", 5, ())), PROMISE)

    def test_bodies(self):
        for wrong in WRONG_STATEMENTS:
            for promise in (PROMISE, None):
                self.assert_part(1, CELLS, HANDLES, with_body(wrong), promise)
                self.assert_part(1, CELLS, HANDLES, with_body(PUT, wrong), promise)
                self.assert_part(1, CELLS, HANDLES, with_body(("if", ("same", 0, 0), (PUT,), (PUT, wrong))), promise)
                self.assert_part(1, CELLS, HANDLES, with_body(("if", ("same", 0, 0), (wrong,), ())), promise)
        for wrong in ANY:
            if wrong != ():
                self.assert_part(0, CELLS, HANDLES, (("add", 1, wrong), ("b", 1, None)), PROMISE)
                self.assert_part(1, CELLS, HANDLES, with_body(wrong), PROMISE)
        self.assert_part(2, CELLS, HANDLES, (("a", 1, ()), ("b", 1, (PUT,)), ("c", 1, [PUT]), ("d", 1, None)), PROMISE)
        for good in ((), (PUT, MAKE), (("release", "h"),), (("if", ("less", ("input",), 1), (PUT,), ()),)):
            self.assertEqual(Module(CELLS, HANDLES, (("add", 1, good),), PROMISE).operations[0][2], good)

    def test_expressions_and_tests(self):
        for wrong in WRONG_EXPRESSIONS + tuple(thing for thing in ANY if not isinstance(thing, int) or isinstance(thing, bool)):
            for part in (wrong, ("plus", wrong, 1), ("times", 1, wrong), ("pick", ("same", 0, 0), wrong, 1),
                         ("pick", ("less", 1, ("minus", wrong, 1)), 1, 1)):
                self.assert_part(1, CELLS, HANDLES, with_expression(part), PROMISE)
                self.assert_part("promise", CELLS, HANDLES, OPERATIONS, (SAFE, (1, part)))
            self.assert_part(1, CELLS, HANDLES, with_test(("same", 1, wrong)), PROMISE)
            self.assert_part("promise", CELLS, HANDLES, OPERATIONS, (("less", wrong, 1), ()))
        for wrong in WRONG_TESTS + ANY:
            for part in (wrong, ("not", wrong), ("and", ("same", 0, 0), wrong), ("and", wrong, ("same", 0, 0))):
                self.assert_part(1, CELLS, HANDLES, with_test(part), PROMISE)
                self.assert_part("promise", CELLS, HANDLES, OPERATIONS, (part, ()))
        for good in (0, 20, ("input",), ("cell", Y), ("pick", ("not", ("and", SAFE, SAFE)), ("input",), 0)):
            self.assertEqual(len(Module(CELLS, HANDLES, with_expression(good), PROMISE).inputs), 5)

    def test_promises(self):
        for wrong in ANY + ((SAFE,), (SAFE, (), ()), [SAFE, ()], (SAFE, []), (SAFE, None), (SAFE, 1), ((), ()), (SAFE, (SAFE,)),
                            (("same", ("input",), 0), ()), (SAFE, (("input",),)), (SAFE, (("plus", ("input",), 1),)),
                            (("not", ("less", 1, ("times", ("input",), 2))), ()), (SAFE, (1, True)), ("cell", X)):
            self.assert_part("promise", CELLS, HANDLES, OPERATIONS, wrong)
            self.assert_part("promise", promise=wrong, cells=CELLS, handles=(), operations=())
        self.assertEqual(Module(CELLS, (), (), (SAFE, (0, ("cell", X)))).promise[1], (0, ("cell", X)))

    def test_random_values_put_in_somewhere(self):
        source = random.Random(4)
        parts = {"cells": 0, "handles": 0, "operations": 0, "promise": 0}
        for module in MODULES[:200]:
            things = [module.cells, module.handles, module.operations, module.promise]
            known = [cell for cell, _, _ in module.cells]
            for _ in range(10):
                at = source.randrange(4)
                changed = put_otherwise(things[at], source, known)
                told = list(things)
                told[at] = changed
                try:
                    made = Module(*told)
                except NoModule as error:
                    expected = ("cells", "handles", "operations", "promise")[at]
                    if at == 0 and error.part != "cells":
                        # Without one of its cells, the operations and the promise may speak of another one.
                        continue
                    if at == 1 and error.part != "handles" or at == 2 and error.part != "operations":
                        self.assertIsInstance(error.part, int)
                        continue
                    self.assertEqual(error.part, expected)
                    parts[expected] += 1
                else:
                    self.assertEqual([made.cells, made.handles, made.operations, made.promise], told)
        self.assertGreater(min(parts.values()), 20, parts)

    def test_modules_beyond_the_limits(self):
        deep = 1
        for _ in range(30):
            deep = ("plus", deep, 1)
        body = (PUT,) * 200
        for _ in range(30):
            body = (("if", ("less", 0, deep), body, ()),)
        cells = tuple(((at, 0), 9, 0) for at in range(30))
        module = Module(cells, HANDLES, tuple((nth_name(at), 4, body) for at in range(20)), (("less", 0, deep), (deep,)))
        self.assertEqual(module.evaluate(deep, module.start), 31)
        self.assertEqual(len(history(module, ("a", 3))), 200)

    def test_nothing_that_is_passed_changes(self):
        for wrong in ([("h", 1)], {"h": [1]}, [[PUT]]):
            text = repr(wrong)
            for arguments in ((wrong, HANDLES, OPERATIONS, PROMISE), (CELLS, wrong, OPERATIONS, PROMISE),
                              (CELLS, HANDLES, wrong, PROMISE), (CELLS, HANDLES, (("add", 1, wrong),), PROMISE),
                              (CELLS, HANDLES, OPERATIONS, wrong)):
                with self.assertRaises(NoModule):
                    Module(*arguments)
            self.assertEqual(repr(wrong), text)


def put_otherwise(thing, source, cells):
    """A value with one part of it, at any depth, put otherwise."""
    if isinstance(thing, tuple) and thing and source.random() < 0.85:
        at = source.randrange(len(thing))
        return thing[:at] + (put_otherwise(thing[at], source, cells),) + thing[at + 1:]
    return source.choice([None, True, -1, 21, 10, "zz", (), [], {}, (9, 9), "put", ("input",), source.choice(cells), 1])


class TestEvaluate(unittest.TestCase):

    def test_random_expressions_and_tests(self):
        source = random.Random(8)
        contents = [dict([(X, 0), (Y, 0)]), {X: 1, Y: 0}, {X: 0, Y: 1}, {(0, -0): 2, Y: 7, (5, 5): 3}, {X: -4, (0, 3): BIG, Y: BIG}]
        kinds = set()
        for _ in range(1500):
            part = random_expression(source, [X, Y], source.randint(1, 6), True)
            test = random_test(source, [X, Y], source.randint(2, 6), True)
            kinds.add(part[0] if isinstance(part, tuple) else "number")
            kinds.add(test[0])
            for content in contents:
                given = tuple(sorted(content.items()))
                for number in (0, 1, 3):
                    told = DRAWER.evaluate(part, given, number)
                    self.assertEqual(told, value(part, content, number))
                    self.assertIs(type(told), int)
                    self.assertIs(DRAWER.holds(test, given, number), truth(test, content, number))
                self.assertEqual(DRAWER.evaluate(part, given), value(part, content, 0))
                self.assertIs(DRAWER.holds(test, given), truth(test, content, 0))
        self.assertEqual(len(kinds), 11, kinds)

    def test_by_name(self):
        self.assertEqual(DRAWER.evaluate(number=3, content=((X, 5), (Y, 2)), expression=("minus", ("input",), ("cell", X))), -2)
        self.assertIs(DRAWER.holds(number=2, content=DRAWER.start, test=("same", ("input",), 2)), True)
        self.assertIs(DRAWER.holds(SAFE, ((X, 1), (Y, 0))), False)
        self.assertEqual(DRAWER.evaluate(("pick", SAFE, 4, 5), ((X, 1), (Y, 1), ((8, 8), 0))), 4)


class TestHistory(unittest.TestCase):

    def test_random_rows(self):
        source = random.Random(9)
        most = empty = several = 0
        for module in MODULES + (DRAWER, LOOSE, JOURNAL, SLOPPY):
            for _ in range(3):
                row = random_row(source, module, 7)
                made = run(module, row)
                self.assertTrue(closed(made))
                store = history(module, *row)
                self.assertEqual(store, Store(made.disk, tuple(made.changes), ties_of(made)))
                if len(store) < 15:
                    assert_store(self, store, made.disk, made.changes, ties_of(made))
                self.assertEqual(store.memory, tuple(sorted(made.memory.items())))
                self.assertEqual(history(module, *row), store)
                most, empty, several = max(most, len(store)), empty + (len(store) == 0), several + (len(made.holding) > 1)
                for count in range(len(row) + 1):
                    self.assertEqual(held(module, *row[:count]), tuple(sorted(run(module, row[:count]).holding.items())))
        self.assertGreater(most, 15)
        self.assertGreater(min(empty, several), 30)

    def test_rows_with_a_history_of_thirty_changes(self):
        source = random.Random(10)
        asked = 0
        for module in MODULES:
            if not module.inputs:
                continue
            row = tuple(source.choice(module.inputs) for _ in range(40))
            made = run(module, row)
            if 30 <= len(made.changes) <= 60:
                asked += 1
                self.assertEqual(history(module, *row), Store(made.disk, tuple(made.changes), ties_of(made)))
                self.assertEqual(held(module, *row), tuple(sorted(made.holding.items())))
        self.assertGreater(asked, 30)

    def test_one_by_hand(self):
        first, second = history(DRAWER), history(DRAWER, ("add", 0), ("add", 0))
        self.assertEqual((first, held(DRAWER)), (Store.empty(((X, 0), (Y, 0))), ()))
        self.assertEqual(second.names, ("a", "b", "c", "d"))
        self.assertEqual(second.ties, (("b", "a"), ("c", "a"), ("d", "b"), ("d", "c")))
        self.assertEqual(held(DRAWER, ("add", 0), ("add", 0)), (("h", "c"),))
        self.assertEqual(held(JOURNAL, ("add", 1)), (("e", "a"), ("f", "b")))
        self.assertEqual(held(JOURNAL, ("add", 1), ("forget", 0)), (("f", "b"),))
        journal = history(JOURNAL, ("add", 1), ("add", 0))
        self.assertEqual(journal.changes, (("a", ((A, 2),)), ("b", ((HEAD, 1),)), ("c", ((B, 1),)), ("d", ((HEAD, 2),))))
        self.assertEqual(journal.ties, (("b", "a"), ("c", "b"), ("d", "c")))

    def test_a_handle_that_is_put_behind_itself(self):
        body = (("put", ((X, 1),), ("h",), "h"), ("put", ((Y, ("minus", 0, 1)),), ("h",), "h"))
        module = Module(((X, 3, 2), (Y, 3, 0)), ("h",), (("a", 1, body),), (("same", 0, 0), ()))
        store = history(module, ("a", 0), ("a", 0))
        self.assertEqual(store.ties, (("b", "a"), ("c", "b"), ("d", "c")))
        self.assertEqual(store.memory, ((X, 1), (Y, 2)))
        self.assertEqual(held(module, ("a", 0)), (("h", "b"),))

    def test_values_of_one_put_are_evaluated_before(self):
        other = (0, 1)
        body = (("put", ((X, ("plus", ("cell", X), 1)), (other, ("cell", X))), (), None),)
        module = Module(((X, 4, 0), (other, 4, 3)), (), (("a", 1, body),), (("same", 0, 0), ()))
        self.assertEqual(history(module, ("a", 0), ("a", 0)).changes, (("a", ((X, 1), (other, 0))), ("b", ((X, 2), (other, 1)))))

    def test_negative_values(self):
        body = (("put", ((X, ("minus", ("times", ("input",), 3), 20)),), (), None),)
        module = Module(((X, 9, 0),), (), (("a", 4, body),), (("same", 0, 0), ()))
        for number in range(4):
            self.assertEqual(history(module, ("a", number)).memory, ((X, (3 * number - 20) % 9),))

    def test_many_changes_in_a_short_time(self):
        start = time.perf_counter()
        row = (("add", 0),) * 150
        self.assertEqual(len(history(DRAWER, *row)), 300)
        self.assertEqual(held(DRAWER, *row), (("h", nth_name(298)),))
        self.assertLess(time.perf_counter() - start, 10)

    def test_random_bodies_are_bodies(self):
        source = random.Random(2)
        for _ in range(50):
            body = random_body(source, [X, Y], ("h",), 3, 4)
            Module(CELLS, HANDLES, (("a", 4, body),), PROMISE)
