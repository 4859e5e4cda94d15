"""Point 22: rows of joins and drops, and stores that are reduced by them."""

import random
import time
import unittest

from heldparts.errors import NoEdit, Noticed, TooMany
from heldparts.kinds import Drop, Join
from heldparts.lots import lots
from heldparts.reducing import after_row, reduced
from heldparts.stores import Store
from heldparts.strangers import stranger_holds
from tests.kind_samples import sample
from tests.lot_model import least_table
from tests.samples import BARE, CHAIN, NOTHING, ONE, X, Y


def parts_of(store):
    """All parts of rows with names of a store."""
    for first in store.names:
        yield ("drop", first)
        for second in store.names:
            yield ("join", first, second)


def edit_by(store, kept, part):
    return Join(store, part[1], part[2], kept) if part[0] == "join" else Drop(store, part[1], kept)


def all_reached(store, kept, most):
    """The stores to which rows of unnoticed edits lead, by their texts, if there are no more than a number."""
    found = {store.text: store}
    waiting = [store]
    for here in waiting:
        for part in parts_of(here):
            try:
                edit = edit_by(here, kept, part)
            except NoEdit:
                continue
            if edit.after.text not in found and edit.examine(limit=5000)[0] == "table":
                found[edit.after.text] = edit.after
                waiting.append(edit.after)
        if len(found) > most:
            return None
    return found


def free_row(count, blocks=1, ghosts=False):
    """Changes that nothing ties, each with a cell of its own, in turn in some blocks."""
    cells = sorted((at % blocks, at) for at in range(count))
    changes = tuple((chr(97 + at), ((cell, 0 if ghosts else 1),)) for at, cell in enumerate(cells))
    return Store(tuple((cell, 0) for cell in cells), changes, ())


class TestAfterRow(unittest.TestCase):

    def assert_error(self, expected, store, kept, row, **named):
        with self.assertRaises(type(expected)) as caught:
            after_row(store, kept, row, **named)
        self.assertIs(type(caught.exception), type(expected))
        if not isinstance(expected, Noticed):
            self.assertEqual(vars(caught.exception), vars(expected), row)
        return caught.exception

    def test_random_rows(self):
        lengths, noticed, wrong = set(), 0, 0
        for seed in range(400):
            store, kept = sample(seed)
            source = random.Random(seed)
            here, row = store, ()
            for _ in range(12):
                choices = list(parts_of(here))
                if not choices:
                    break
                part = source.choice(choices)
                try:
                    edit = edit_by(here, kept, part)
                except NoEdit as error:
                    self.assert_error(NoEdit(error.word), store, kept, row + (part, ("drop", "nobody")))
                    wrong += 1
                    continue
                if edit.examine()[0] != "table":
                    raised = self.assert_error(Noticed(None), store, kept, row + (part, ("join", "zz", "zz")))
                    self.assertIs(stranger_holds(edit, raised.stranger), True)
                    self.assertEqual(raised.word, "noticed")
                    noticed += 1
                    continue
                here, row = edit.after, row + (part,)
                gone = part[-1]
                if gone not in here:
                    self.assert_error(NoEdit("name"), store, kept, row + (("drop", gone),))
                    self.assert_error(NoEdit("name"), store, kept, row + (("join", gone, gone),))
            lengths.add(len(row))
            self.assertEqual(after_row(store, kept, row), here)
            self.assertEqual(after_row(row=row, kept=kept, store=store, limit=5000), here)
        self.assertGreater(noticed, 100)
        self.assertGreater(wrong, 300)
        self.assertGreaterEqual(max(lengths), 5)

    def test_no_part(self):
        self.assertEqual(after_row(ONE, ("k",), ()), ONE)
        self.assertEqual(after_row(NOTHING, (), (), limit=0), NOTHING)
        self.assertEqual(after_row(ONE, (), (), limit=0), ONE)

    def test_names_that_there_are_not(self):
        for part in (("drop", "z"), ("join", "a", "z"), ("join", "z", "a"), ("join", "z", "z")):
            self.assert_error(NoEdit("name"), ONE, ("k",), (part,))
            self.assert_error(NoEdit("name"), ONE, ("k",), (("join", "a", "b"), part), limit=4)
        self.assert_error(NoEdit("name"), ONE, ("k",), (("join", "a", "b"), ("drop", "b")))
        self.assert_error(NoEdit("name"), ONE, ("k",), (("join", "b", "a"), ("join", "b", "a")))
        self.assert_error(NoEdit("name"), ONE, ("k", "a"), (("drop", "z"),))

    def test_words_of_joins_and_drops(self):
        self.assert_error(NoEdit("kept"), ONE, ("k",), (("drop", "k"),))
        self.assert_error(NoEdit("kept"), ONE, ("k",), (("join", "k", "k"),))
        self.assert_error(NoEdit("kept"), ONE, ("k", "a"), (("drop", "b"),))
        self.assert_error(NoEdit("same"), ONE, ("k",), (("join", "a", "a"),))
        self.assert_error(NoEdit("block"), ONE, (), (("join", "a", "k"),))
        self.assert_error(NoEdit("between"), CHAIN, (), (("join", "a", "c"),))
        self.assert_error(NoEdit("between"), CHAIN, (), (("join", "c", "d"), ("join", "a", "c")))
        self.assertEqual(after_row(CHAIN, (), (("join", "a", "b"), ("join", "a", "c"), ("join", "d", "a"))).names, ("d", "e"))

    def test_too_many(self):
        store = free_row(6, ghosts=True)
        row = (("drop", "a"), ("drop", "b"))
        self.assertEqual(len(after_row(store, (), row, limit=32)), 4)
        for limit in (31, 16, 1, 0):
            self.assert_error(TooMany(limit), store, (), row, limit=limit)
        self.assert_error(TooMany(15), store, (), (("join", "a", "b"), ("drop", "c")), limit=15)
        # A noticed edit is told after the number of lots, a wrong one before it.
        self.assert_error(TooMany(31), free_row(6), (), (("drop", "a"),), limit=31)
        self.assert_error(Noticed(None), free_row(6), (), (("drop", "a"),), limit=32)
        self.assert_error(NoEdit("same"), free_row(6), (), (("join", "a", "a"),), limit=0)

    def test_the_default_limit(self):
        self.assertEqual(len(after_row(free_row(9, ghosts=True), (), (("drop", "a"),))), 8)
        self.assert_error(TooMany(500), free_row(10, ghosts=True), (), (("drop", "a"),))
        # 5 * 5 * 20 lots and one lot more.
        ties = [("b", "a"), ("c", "b"), ("d", "c"), ("g", "f"), ("h", "g"), ("i", "h")]
        wide = free_row(12, ghosts=True)
        for more, count in (((("l", "k"), ("k", "j")), 25 * 4 * 2), ((("l", "k"),), 25 * 6 * 2)):
            store = Store(wide.disk, wide.changes, tuple(ties) + more)
            self.assertEqual(len(list(lots(store))), count)
            self.assertEqual(len(after_row(store, (), (("drop", "e"),))), 11)

    def test_strangers_of_each_kind(self):
        ring = self.assert_error(Noticed(None), ONE, ("k",), (("drop", "a"), ("drop", "b"))).stranger
        self.assertEqual(ring[0], "ring")
        self.assertIs(stranger_holds(Drop(after_row(ONE, ("k",), (("drop", "a"),)), "b", ("k",)), ring), True)
        self.assertEqual(self.assert_error(Noticed(None), free_row(3), (), (("drop", "c"),)).stranger, ("memory",))
        disk = ((X, 0), ((0, 1), 0))
        store = Store(
            disk, (("a", ((X, 1), ((0, 1), 1))), ("b", ((X, 2),)), ("c", (((0, 1), 1),))), (("b", "a"), ("c", "a")))
        lot = self.assert_error(Noticed(None), store, (), (("drop", "a"),)).stranger
        self.assertEqual(lot[0], "lot")
        self.assertIs(stranger_holds(Drop(store, "a"), lot), True)


class TestReduced(unittest.TestCase):

    def assert_too_many(self, store, kept, limit):
        with self.assertRaises(TooMany) as caught:
            reduced(store, kept, limit=limit)
        self.assertEqual(caught.exception.limit, limit)

    def test_against_a_search_through_all_rows(self):
        counts, shorter = [], 0
        for seed in range(130):
            store, kept = sample(seed, most=6)
            found = all_reached(store, kept, 150)
            if found is None:
                continue
            count = len(found)
            counts.append(count)
            text = store.text
            row, least = reduced(store, kept, limit=count)
            self.assertEqual(len(least), min(len(other) for other in found.values()))
            self.assertIn(least.text, found)
            self.assertIsInstance(row, tuple)
            self.assertEqual(after_row(store, kept, row, limit=5000), least)
            self.assertLessEqual(len(row), len(store))
            self.assertEqual(reduced(store, kept, limit=count + 1), (row, least))
            self.assertEqual(reduced(limit=2000, kept=kept, store=store), (row, least))
            self.assert_too_many(store, kept, count - 1)
            self.assert_too_many(store, kept, 0)
            self.assertEqual(store.text, text)
            shorter += len(row) > 1
        self.assertGreater(len(counts), 90)
        self.assertGreater(max(counts), 60)
        self.assertGreater(shorter, 20)

    def test_examples(self):
        self.assertEqual(reduced(NOTHING, ()), ((), NOTHING))
        self.assertEqual(reduced(BARE, ("k",)), ((), BARE))
        self.assert_too_many(NOTHING, (), 0)
        row, store = reduced(ONE, ("k",))
        self.assertEqual(len(row), 1)
        self.assertIsNotNone(least_table(edit_by(ONE, ("k",), row[0])))
        self.assertEqual(store, after_row(ONE, ("k",), row))

    def test_stores_that_are_unequal_by_names_alone(self):
        # Two changes of one block: as they are, and as one with either name.
        store = free_row(2)
        self.assertEqual(len(reduced(store, (), limit=3)[1]), 1)
        self.assert_too_many(store, (), 2)
        self.assert_too_many(store, (), 1)
        # Three: as they are; three pairs of two names each; all of them, by three names.
        self.assertEqual(len(reduced(free_row(3), (), limit=10)[1]), 1)
        self.assert_too_many(free_row(3), (), 9)
        # An idle change: joined with the other one, by either name, or left out, which gives one of these stores.
        idle = Store(((X, 0),), (("a", ((X, 1),)), ("b", ((X, 1),))), (("b", "a"),))
        self.assertEqual(len(reduced(idle, (), limit=3)[1]), 1)
        self.assert_too_many(idle, (), 2)

    def test_the_default_limit(self):
        # Six changes of one block, one after another on one cell, of which one or two are kept.
        for count, kept, total in ((5, (), 196), (6, (), 1057)):
            store = free_row(count)
            if total <= 200:
                self.assertEqual(len(reduced(store, kept)[1]), 1)
                self.assert_too_many(store, kept, total - 1)
            else:
                self.assert_too_many(store, kept, 200)
                with self.assertRaises(TooMany) as caught:
                    reduced(store, kept)
                self.assertEqual(caught.exception.limit, 200)
                self.assertEqual(len(reduced(store, kept, limit=total)[1]), 1)
                self.assert_too_many(store, kept, total - 1)

    def test_two_hundred_stores_of_seven_changes(self):
        disk = tuple(((at // 4, at % 4), 0) for at in range(8))
        changes = tuple((chr(97 + at), (((at // 4, at % 4), at % 2),)) for at in range(7))
        start = time.perf_counter()
        asked = 0
        for ties, kept in (((("b", "a"), ("e", "b"), ("c", "b"), ("f", "e")), ("e",)), ((("b", "a"), ("d", "c")), ("b", "f")),
                           ((("g", "a"), ("f", "b")), ("a", "e")), ((("c", "a"), ("d", "b"), ("g", "c")), ("c", "g"))):
            store = Store(disk, changes, ties)
            for _ in range(5):
                try:
                    row, least = reduced(store, kept, limit=250)
                    self.assertEqual(after_row(store, kept, row), least)
                except TooMany:
                    asked += 1
        self.assertLess(time.perf_counter() - start, 20)
        self.assertLess(asked, 20)
