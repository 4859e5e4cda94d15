"""Points 12, 13, 17 and 18 for stores of some hundred lots: the limits to the lot, and hundreds of calls in a short time."""

import itertools
import random
import time
import unittest

from heldparts.contexts import Context
from heldparts.edits import Edit
from heldparts.errors import TooMany
from heldparts.lots import lots
from heldparts.stores import Store
from heldparts.strangers import noticed_by
from heldparts.tables import table_holds
from heldparts.views import View, are_alike
from tests.edit_samples import random_store
from tests.lot_model import model_of, view_entries


def free_store(count, names="abcdefghijklmnopqrstuvwx", block=0):
    """Changes that nothing ties, each with one cell of its own, all of one block."""
    disk = tuple(((block, at), 0) for at in range(count))
    return Store(disk, tuple((names[at], ((cell, 1),)) for at, (cell, _) in enumerate(disk)), ())


class TestLimits(unittest.TestCase):

    def test_just_below_at_and_just_above_the_number_of_lots(self):
        for count in (0, 1, 3, 8, 9, 10):
            store, other = free_store(count), free_store(count)
            kept = store.names[:2]
            many = 2 ** count
            for names in ((), kept, store.names):
                edit = Edit(store, other, names)
                calls = (
                    lambda limit: edit.examine(limit=limit)[0], lambda limit: len(View.of(store, names, limit=limit)),
                    lambda limit: are_alike(store, other, names, limit=limit),
                    lambda limit: noticed_by(edit, Context(), limit=limit))
                for call, expected in zip(calls, ("table", many, True, None)):
                    self.assertEqual([call(many), call(many + 1)], [expected] * 2)
                    for limit in {many - 1, many // 2, 0} - {many}:
                        with self.assertRaises(TooMany) as caught:
                            call(limit)
                        self.assertEqual(caught.exception.limit, limit)

    def test_limits_of_random_stores(self):
        for seed in range(150):
            source = random.Random(seed)
            store = random_store(source, 6)
            kept = tuple(name for name in store.names if source.random() < 0.4)
            many = len(model_of(store).lots())
            edit = Edit(store, store, kept)
            for limit in (many - 1, many, many + 1):
                for call in (lambda: edit.examine(limit=limit), lambda: View.of(store, kept, limit=limit),
                             lambda: are_alike(store, store, kept, limit=limit), lambda: noticed_by(edit, Context(), limit=limit)):
                    if limit < many:
                        self.assertRaises(TooMany, call)
                    else:
                        call()

    def test_one_of_both_stores_has_too_many(self):
        few, many = free_store(4).tied("b", "a"), free_store(4)
        for first, second in ((few, many), (many, few)):
            with self.assertRaises(TooMany) as caught:
                are_alike(first, second, (), limit=15)
            self.assertEqual(caught.exception.limit, 15)
            self.assertIs(are_alike(first, second, (), limit=16), False)
        # Of an edit only the store after it counts.
        self.assertEqual(Edit(many, few).examine(limit=12)[0], "table")
        self.assertRaises(TooMany, Edit(few, many).examine, limit=15)
        self.assertIsNone(noticed_by(Edit(many, few), Context(), limit=12))
        self.assertEqual(noticed_by(Edit(few, many), Context(), limit=16), ("lot", ("b",)))

    def test_tables_and_views_of_great_stores(self):
        store = free_store(10)
        every = [lot for count in range(11) for lot in itertools.combinations(store.names, count)]
        self.assertEqual(Edit(store, free_store(10), ("a", "j")).examine(limit=1024), ("table", tuple((lot, lot) for lot in every)))
        view = View.of(store, ("b", "i"), limit=1024)
        self.assertEqual(view.entries, view_entries(model_of(store).entries(("b", "i"))))
        lines = view.text.split("\n")
        self.assertEqual(lines[0], "0 0 0 0 0 0 0 0 0 0 |     | ")
        self.assertEqual(lines[-1], "1 1 1 1 1 1 1 1 1 1 | b i | " + " ".join(f"0.{at}" for at in range(10)))

    def test_values_that_come_back(self):
        # In rows in which values come back, the first change that leaves a value is not always the one that will do.
        found = 0
        for seed in range(300):
            source = random.Random(seed)
            cells = tuple((0, at) for at in range(source.randint(1, 3)))
            store = Store.empty(tuple((cell, source.randint(0, 1)) for cell in cells))
            for name in "abcdefg":
                written = sorted(source.sample(cells, source.randint(1, len(cells))))
                store = store.with_change(name, tuple((cell, source.randint(0, 1)) for cell in written))
            kept = tuple(name for name in store.names if source.random() < 0.2)
            other = store
            for _ in range(2):
                later, earlier = source.sample(store.names, 2)
                if not other.is_before(later, earlier):
                    other = other.tied(later, earlier)
            for edit in (Edit(store, other, kept), Edit(other, store, kept)):
                told = edit.examine(limit=2000)
                if told[0] == "table":
                    found += 1
                    self.assertIs(table_holds(edit, told[1]), True)
                self.assertIs(
                    View.of(edit.after, kept).is_within(View.of(edit.before, kept)), told[0] == "table")
        self.assertGreater(found, 150)


class TestTimes(unittest.TestCase):

    def assert_soon(self, call, times, seconds=20):
        """That some hundred calls come to an end; on an ordinary machine they take less than a second."""
        start = time.perf_counter()
        for _ in range(times):
            call()
        self.assertLess(time.perf_counter() - start, seconds)

    def assert_too_many(self, call, limit):
        with self.assertRaises(TooMany) as caught:
            call()
        self.assertEqual(caught.exception.limit, limit)

    def test_hundreds_of_calls(self):
        for count in (8, 9, 10):
            store, other = free_store(count), free_store(count)
            edit, kept = Edit(store, other), Edit(store, other, store.names)
            for call in (
                    lambda: edit.examine(limit=1024), lambda: kept.examine(limit=1024), lambda: View.of(store, (), limit=1024),
                    lambda: View.of(store, ("a", "b"), limit=1024), lambda: are_alike(store, other, (), limit=1024),
                    lambda: noticed_by(edit, Context(), limit=1024)):
                self.assert_soon(call, 200)

    def test_twelve_changes_in_a_context_of_twelve_more(self):
        store, other = free_store(12), free_store(12, names=["z" + chr(97 + at) for at in range(12)], block=1)
        context = Context(other.disk, other.changes, ())
        edit = Edit(store, store)
        around = context.around(store, ())
        inner = Edit(around, around)
        self.assert_soon(lambda: self.assert_too_many(lambda: noticed_by(edit, context), 500), 500)
        self.assert_soon(lambda: self.assert_too_many(lambda: noticed_by(edit, context, limit=2000), 2000), 500)
        self.assert_soon(lambda: self.assert_too_many(inner.examine, 500), 500)
        self.assert_soon(lambda: self.assert_too_many(lambda: View.of(around, ()), 500), 500)

    def test_small_stores(self):
        cells = ((0, 0), (0, 1), (1, 0), (2, 0))
        changes = (("a", ((cells[0], 1),)), ("b", ((cells[1], 1),)), ("c", ((cells[0], 2), (cells[1], 2))), ("d", ((cells[2], 1),)),
                   ("e", ((cells[3], 3),)))
        for ties in ((("c", "a"), ("c", "b"), ("e", "d")), (("c", "a"), ("c", "b")), (("b", "a"), ("c", "b"), ("d", "c"), ("e", "d"))):
            store, other = (Store(tuple((cell, 0) for cell in cells), changes, ties) for _ in range(2))
            self.assertLessEqual(6, len(list(lots(store))))
            self.assert_soon(lambda: View.of(store, ()), 2000)
            self.assert_soon(lambda: View.of(store, ("a", "d")), 2000)
            self.assert_soon(lambda: are_alike(store, other, ()), 2000)
