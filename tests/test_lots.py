"""Points 6, 7 and 12: the lots of a store, their content, the cells that are done in them, in their order."""

import itertools
import random
import unittest

from heldparts.errors import NoLot
from heldparts.lots import closure, content, done_cells, is_lot, lots
from heldparts.stores import Store
from tests.edit_samples import random_store, store_with
from tests.lot_model import model_of
from tests.samples import ANY, BARE, CHAIN, EMPTY, NOTHING, ONE, X, Y

MANY = tuple(random_store(random.Random(seed), 10) for seed in range(80)) + tuple(store_with(seed) for seed in range(60))
STORES = MANY + (ONE, BARE, CHAIN, EMPTY, NOTHING)


def row_of(count):
    """A store of so many changes, each of them behind the one before it, the names not in this order."""
    names = ["n" + chr(97 + (7 * at) % 26) for at in range(count)]
    changes = tuple((name, (((0, at % 5), at),)) for at, name in enumerate(names))
    ties = tuple((names[at + 1], names[at]) for at in range(count - 1))
    return Store(tuple(((0, place), -1) for place in range(5)), changes, ties), names


def not_lots(lot):
    """Values that are like a lot, but none."""
    found = [list(lot), lot + ("zzzz",), ("zzzz",) + lot, lot + (None,), lot + (1,), lot + ([],),
             lot + ("",), lot + (lot,), (lot,), {name: True for name in lot}, " ".join(lot)]
    if lot:
        found += [lot + lot[:1], lot[:-1] + lot[-1:] * 2, lot * 2, lot[:1] * 3000, lot[:-1] + (list(lot[-1]),), lot[0]]
    if len(lot) > 1:
        found.append(lot[::-1])
    return found


class TestLots(unittest.TestCase):

    def test_against_all_sets_of_names(self):
        for store in STORES:
            self.assertEqual(list(lots(store)), model_of(store).lots())

    def test_the_order(self):
        store = Store(
            (((0, 0), 0), ((0, 1), 0), ((0, 2), 0), ((1, 0), 0)),
            (("b", (((0, 0), 1),)), ("aa", (((0, 1), 1),)), ("a", (((0, 2), 1),)), ("ab", (((1, 0), 1),))), (("ab", "b"),))
        expected = [(), ("a",), ("aa",), ("b",), ("a", "aa"), ("a", "b"), ("aa", "b"), ("ab", "b"), ("a", "aa", "b"),
                    ("a", "ab", "b"), ("aa", "ab", "b"), ("a", "aa", "ab", "b")]
        self.assertEqual(list(lots(store)), expected)

    def test_asked_again_and_behind_other_stores(self):
        first = {at: list(lots(store)) for at, store in enumerate(STORES)}
        for at in reversed(range(len(STORES))):
            self.assertEqual(list(lots(STORES[at])), first[at])
            self.assertEqual(list(lots(store=STORES[at])), first[at])

    def test_two_at_the_same_time(self):
        self.assertEqual(list(zip(lots(ONE), lots(ONE))), [(lot, lot) for lot in lots(ONE)])
        half = lots(ONE)
        next(half)
        self.assertEqual(list(lots(ONE))[1:], list(half))

    def test_twenty_four_in_a_row(self):
        store, names = row_of(24)
        found = list(lots(store))
        self.assertEqual(found, [tuple(sorted(names[:count])) for count in range(25)])
        for lot in found:
            self.assertIs(is_lot(store, lot), True)
        self.assertEqual(closure(store, (names[20], names[3])), tuple(sorted(names[:21])))
        self.assertEqual(content(store, found[7])[1], ((0, 1), 6))
        self.assertEqual(done_cells(store, found[23]), ((0, 0), (0, 1), (0, 2), (0, 4)))

    def test_the_first_of_very_many(self):
        names = ["n" + chr(97 + at) for at in range(24)]
        disk = tuple(((at, 0), 0) for at in range(24))
        store = Store(disk, tuple((name, (((at, 0), 1),)) for at, name in enumerate(names)), ())
        expected = [()] + [(name,) for name in names] + list(itertools.combinations(names, 2))
        self.assertEqual(list(itertools.islice(lots(store), len(expected))), expected)
        self.assertIs(is_lot(store, tuple(names)), True)

    def test_nothing_changes(self):
        for store in STORES:
            before = (store.text, store.memory, store.ties)
            list(lots(store))
            is_lot(store, store.names)
            closure(store, store.names)
            self.assertEqual((store.text, store.memory, store.ties), before)


class TestIsLot(unittest.TestCase):

    def test_all_tuples_of_names_in_any_order(self):
        for store in STORES[:60] + (ONE, BARE, EMPTY, NOTHING):
            names = store.names[:4]
            expected = set(model_of(store).lots())
            for count in range(len(names) + 1):
                for thing in itertools.permutations(names, count):
                    self.assertIs(is_lot(store, thing), thing in expected)

    def test_all_sets_of_names(self):
        for store in STORES:
            expected = set(model_of(store).lots())
            for count in range(len(store) + 1):
                for thing in itertools.combinations(store.names, count):
                    self.assertIs(is_lot(store, thing), thing in expected)

    def test_what_is_like_a_lot(self):
        for store in STORES:
            for lot in list(lots(store))[:30]:
                for thing in not_lots(lot):
                    self.assertIs(is_lot(store, thing), False, repr(thing)[:60])
                    self.assertIs(is_lot(store=store, thing=thing), False)

    def test_any_value(self):
        for store in (ONE, BARE, NOTHING, CHAIN):
            expected = set(model_of(store).lots())
            for thing in ANY + (("a",) * 3000, ("k",) * 3000, ("a", "b", "k") * 3000, tuple("abcdefghijklmnop")):
                right = isinstance(thing, tuple) and repr(thing) in {repr(lot) for lot in expected}
                self.assertIs(is_lot(store, thing), right)


class TestClosure(unittest.TestCase):

    def test_in_any_order_and_repeated(self):
        for store in STORES[::3] + (ONE, BARE, CHAIN, NOTHING):
            model = model_of(store)
            for count in range(4):
                for names in itertools.combinations(store.names, count):
                    expected = model.closure(names)
                    for order in itertools.permutations(names):
                        self.assertEqual(closure(store, order), expected)
                    self.assertEqual(closure(store, names + names[:1] + names), expected)
                    self.assertEqual(closure(names=names, store=store), expected)

    def test_examples(self):
        self.assertEqual(closure(ONE, ()), ())
        self.assertEqual(closure(ONE, ("k",)), ("k",))
        self.assertEqual(closure(ONE, ("b", "b")), ("a", "b", "k"))
        self.assertEqual(closure(CHAIN, ("e", "c")), ("a", "b", "c", "e"))


class TestContentAndDoneCells(unittest.TestCase):

    def test_each_lot(self):
        for store in STORES:
            model = model_of(store)
            for lot in model.lots():
                self.assertEqual(content(store, lot), model.content(lot))
                self.assertEqual(done_cells(store, lot), model.done(lot))
                self.assertEqual(content(lot=lot, store=store), model.content(lot))
                self.assertEqual(done_cells(lot=lot, store=store), model.done(lot))

    def test_the_whole_and_nothing(self):
        for store in STORES:
            self.assertEqual(content(store, store.names), store.memory)
            self.assertEqual(content(store, ()), store.disk)
            self.assertEqual(done_cells(store, store.names), store.cells)
            self.assertEqual(done_cells(store, ()), tuple(cell for cell in store.cells if store.row(cell) == ()))

    def test_cells_with_empty_rows(self):
        self.assertEqual(done_cells(BARE, ()), (X,))
        self.assertEqual(done_cells(BARE, ("k",)), (X, Y))
        self.assertEqual(done_cells(EMPTY, ()), (X, Y))
        self.assertEqual(done_cells(NOTHING, ()), ())
        self.assertEqual(done_cells(CHAIN, ("a", "b", "c")), ())

    def test_what_writing_leaves(self):
        for store in STORES:
            for lot in model_of(store).lots():
                left, waiting = store, list(lot)
                while waiting:
                    first = [name for name in waiting if not left.ahead_of(name)][0]
                    waiting.remove(first)
                    left = left.written(first)
                self.assertEqual(left.disk, content(store, lot))

    def test_no_lot(self):
        for store in (ONE, BARE, NOTHING, CHAIN):
            wrong = [thing for thing in ANY if not is_lot(store, thing)]
            for lot in lots(store):
                wrong += not_lots(lot)
            wrong += [("b",), ("a", "b"), ("b", "a", "k"), ("a",) * 3000] if store is ONE else []
            for thing in wrong:
                for question in (content, done_cells):
                    with self.assertRaises(NoLot) as caught:
                        question(store, thing)
                    self.assertIs(caught.exception.names, thing)
