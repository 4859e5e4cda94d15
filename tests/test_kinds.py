"""Point 20: joins, ties, unties, drops and splits, their errors and their rules."""

import itertools
import random
import time
import unittest

from heldparts.edits import Edit, shown_pairs
from heldparts.errors import NoEdit
from heldparts.kinds import Drop, Join, Split, Tie, Untie
from heldparts.stores import Store
from tests.kind_samples import (
    after_drop, after_join, after_split, after_tie, after_untie, block_of, is_between, pairs_of, sample)
from tests.lot_model import model_of, table_choices
from tests.model import assert_store
from tests.samples import BARE, CHAIN, NOTHING, ONE, X, Y

SAMPLES = tuple(sample(seed) for seed in range(260))
KINDS = (Join, Tie, Untie, Drop, Split)


def cells_of(store, name):
    return tuple(cell for cell, _ in store.writes(name))


def some_cells(store, name):
    """All choices of one or more, not all, of the cells of a change."""
    cells = cells_of(store, name)
    return [part for count in range(1, len(cells)) for part in itertools.combinations(cells, count)]


def edits_of(store, kept):
    """Each edit that can be made from a store, with the parts of the store that it must lead to."""
    free = [name for name in store.names if name not in kept]
    for first, second in itertools.permutations(free, 2):
        if block_of(store, first) == block_of(store, second) and not is_between(store, first, second):
            yield Join(store, first, second, kept), after_join(store, first, second)
    pairs = pairs_of(store)
    for later, earlier in itertools.permutations(store.names, 2):
        if (later, earlier) not in pairs and (earlier, later) not in pairs:
            yield Tie(store, later, earlier, kept), after_tie(store, later, earlier)
    for later, earlier in store.ties:
        if not set(cells_of(store, later)) & set(cells_of(store, earlier)):
            yield Untie(store, later, earlier, kept), after_untie(store, later, earlier)
    for name in free:
        yield Drop(store, name, kept), after_drop(store, name)
        for cells in some_cells(store, name):
            yield Split(store, name, "new", cells, kept), after_split(store, name, "new", cells)


def idle(store, name):
    """What the rule of drops asks for, word by word."""
    model = model_of(store)
    had = dict(store.disk)
    for cell, value in store.writes(name):
        row = model.rows[cell]
        at = row.index(name)
        before = model.changes[row[at - 1]][cell] if at else had[cell]
        if before != value:
            return False
        if at == len(row) - 1:
            for other in [first for first, last in model.pairs if last == name]:
                if at == 0 or not (other == row[at - 1] or (other, row[at - 1]) in model.pairs):
                    return False
    return True


class TestKinds(unittest.TestCase):

    def assert_word(self, word, kind, *arguments, **named):
        with self.assertRaises(NoEdit) as caught:
            kind(*arguments, **named)
        self.assertIs(type(caught.exception), NoEdit)
        self.assertEqual(caught.exception.word, word, (kind, arguments[1:]))

    def test_stores_after_edits(self):
        counts = {kind: 0 for kind in KINDS}
        for store, kept in SAMPLES:
            text = store.text
            for edit, (disk, changes, ties) in edits_of(store, kept):
                counts[type(edit)] += 1
                self.assertIs(edit.before, store)
                self.assertEqual(edit.kept, kept)
                if counts[type(edit)] % 4 == 0:
                    assert_store(self, edit.after, disk, changes, ties)
                after = Store(disk, changes, ties)
                self.assertEqual(edit.after, after)
                self.assertIs(edit == Edit(store, after, kept), True)
                self.assertIs(Edit(store, after, kept) == edit, True)
                self.assertIs(edit != Edit(store, after, kept), False)
                self.assertIsInstance(edit, Edit)
            self.assertEqual(store.text, text)
        self.assertGreater(min(counts.values()), 150, counts)

    def test_by_position_and_by_name(self):
        for edits in (
                (Join(ONE, "a", "b", ("k",)), Join(kept=("k",), second="b", first="a", before=ONE)),
                (Tie(ONE, "a", "k", ("k",)), Tie(kept=("k",), earlier="k", later="a", before=ONE)),
                (Untie(ONE, "b", "k", ("k",)), Untie(kept=("k",), earlier="k", later="b", before=ONE)),
                (Drop(ONE, "a", ("k",)), Drop(kept=("k",), name="a", before=ONE)),
                (Split(CHAIN, "d", "n", ((0, 1),), ("e",)),
                 Split(kept=("e",), cells=((0, 1),), new="n", name="d", before=CHAIN))):
            self.assertEqual(edits[0], edits[1])
            self.assertEqual(edits[0].rule(), edits[1].rule())
            for name in ("before", "after", "kept"):
                self.assertIn(name, vars(edits[0]))
        for kind, arguments in ((Join, ("a", "b")), (Tie, ("a", "k")), (Untie, ("b", "k")), (Drop, ("k",))):
            self.assertEqual(kind(ONE, *arguments).kept, ())
            self.assertEqual(kind(ONE, *arguments), kind(ONE, *arguments, ()))
        self.assertEqual(Split(CHAIN, "d", "n", ((0, 2),)).kept, ())

    def test_rules_of_joins_and_ties(self):
        found = {True: 0, False: 0}
        for store, kept in SAMPLES:
            for edit, _ in edits_of(store, kept):
                if not isinstance(edit, (Join, Tie)):
                    continue
                told = edit.rule()
                same = model_of(edit.before).shown(kept) == model_of(edit.after).shown(kept)
                self.assertIs(told, same)
                self.assertEqual(same, shown_pairs(edit.before, kept) == shown_pairs(edit.after, kept))
                if len(store) < 7 and found[told] < 700:
                    found[told] += 1
                    self.assertIs(table_choices(edit) is not None, told)
                    self.assertIs(edit.examine()[0] == "table", told)
        self.assertGreater(min(found.values()), 200, found)

    def test_rules_of_drops(self):
        found = {True: 0, None: 0}
        ghosts, lasts, alone = 0, 0, 0
        for store, kept in SAMPLES:
            for edit, _ in edits_of(store, kept):
                if not isinstance(edit, Drop):
                    continue
                name = next(name for name in store.names if name not in edit.after)
                told = edit.rule()
                self.assertIs(told, True if idle(store, name) else None)
                found[told] += 1
                ghosts += store.is_ghost(name)
                rows = [store.row(cell) for cell in cells_of(store, name)]
                lasts += any(row[-1] == name and len(row) > 1 for row in rows)
                alone += (name,) in rows
                if told:
                    self.assertIsNotNone(table_choices(edit))
        self.assertGreater(min(found[True], found[None], ghosts, lasts, alone), 40, found)

    def test_the_rule_of_drops_at_each_place_of_a_row(self):
        # g writes what is there: in a row of its own, first, in the middle, last; with and without something before it.
        disk = ((X, 0), (Y, 0))
        changes = (("a", ((X, 1),)), ("g", ((X, 1),)), ("k", ((Y, 1),)))
        self.assertIs(Drop(Store(disk, changes, (("g", "a"),)), "g").rule(), True)
        self.assertIs(Drop(Store(disk, changes, (("g", "a"), ("g", "k"))), "g").rule(), None)
        self.assertIs(Drop(Store(disk, changes, (("g", "a"), ("a", "k"))), "g", ("k",)).rule(), True)
        more = changes + (("z", ((X, 2),)),)
        self.assertIs(Drop(Store(disk, more, (("g", "a"), ("g", "k"), ("z", "g"))), "g").rule(), True)
        alone = (("g", ((X, 0),)), ("k", ((Y, 1),)))
        self.assertIs(Drop(Store(disk, alone, ()), "g", ("k",)).rule(), True)
        self.assertIs(Drop(Store(disk, alone, (("g", "k"),)), "g").rule(), None)
        self.assertIs(Drop(Store(disk, alone, (("k", "g"),)), "g").rule(), True)
        first = (("a", ((X, 2),)), ("g", ((X, 0),)), ("k", ((Y, 1),)))
        self.assertIs(Drop(Store(disk, first, (("a", "g"), ("g", "k"))), "g").rule(), True)
        self.assertIs(Drop(Store(disk, changes, (("a", "g"),)), "g").rule(), None)

    def test_unties_and_splits_have_no_rule(self):
        count = 0
        for store, kept in SAMPLES:
            for edit, _ in edits_of(store, kept):
                if isinstance(edit, (Untie, Split)):
                    self.assertIsNone(edit.rule())
                    self.assertNotEqual(edit.before, edit.after)
                    count += 1
        self.assertGreater(count, 300)

    def test_rules_between_equal_stores(self):
        made = (Join(ONE, "a", "b"), Tie(ONE, "a", "k"), Untie(ONE, "b", "k"), Drop(ONE, "a"),
                Split(CHAIN, "d", "n", ((0, 1),)))
        for edit in made:
            # There is no such edit of these kinds, so the attribute is set to ask the rule all the same.
            edit.after = Store.read(edit.before.text)
            self.assertIs(edit.rule(), True)

    def test_wrong_kept_names(self):
        for kept in (("zz",), ("b", "a"), ("a", "a"), ("a", "zz"), ("k", "b"), ("",), ("A",), ("k", "k")):
            for kind, arguments in (
                    (Join, ("a", "b")), (Join, ("a", "a")), (Join, ("a", "k")), (Tie, ("a", "b")), (Tie, ("b", "a")),
                    (Tie, ("a", "k")), (Untie, ("b", "a")), (Untie, ("a", "k")), (Untie, ("b", "k")), (Drop, ("a",)),
                    (Split, ("a", "n", ())), (Split, ("a", "b", (X,)))):
                self.assert_word("kept", kind, ONE, *arguments, kept)
        self.assert_word("kept", Drop, BARE, "k", ("a", "k"))

    def test_kept_changes_stay(self):
        for first, second in (("a", "b"), ("b", "a"), ("a", "a"), ("a", "k"), ("k", "a")):
            self.assert_word("kept", Join, ONE, first, second, ("a",))
        self.assert_word("kept", Join, CHAIN, "a", "c", ("c",))
        self.assert_word("kept", Drop, ONE, "b", ("a", "b"))
        for new, cells in (("n", ((0, 1),)), ("a", ()), ("n", ())):
            self.assert_word("kept", Split, CHAIN, "d", new, cells, ("a", "d"))
        self.assertIs(Tie(ONE, "a", "k", ("a", "k")).rule(), False)
        self.assertEqual(Untie(ONE, "b", "k", ("b", "k")).kept, ("b", "k"))

    def test_joins_that_there_are_not(self):
        self.assert_word("same", Join, ONE, "a", "a", ("k",))
        self.assert_word("block", Join, ONE, "a", "k")
        self.assert_word("block", Join, ONE, "k", "b")
        self.assert_word("between", Join, CHAIN, "a", "c")
        self.assert_word("between", Join, CHAIN, "d", "a", ("e",))
        # A change of another block stands between both.
        far = Store(ONE.disk, (("a", ((X, 1),)), ("b", ((X, 0),)), ("k", ((Y, 1),))), (("k", "a"), ("b", "k")))
        self.assert_word("between", Join, far, "b", "a")
        wide = Store(((X, 0), ((0, 5), 0), (Y, 0)), (("a", ((X, 1),)), ("b", (((0, 5), 0),)), ("k", ((Y, 1),))), ())
        self.assertEqual(Join(wide, "b", "a").after.changes[0], ("b", ((X, 1), ((0, 5), 0))))

    def test_ties_and_unties_that_there_are_not(self):
        self.assert_word("ring", Tie, ONE, "a", "a", ("k",))
        self.assert_word("ring", Tie, ONE, "a", "b")
        self.assert_word("ring", Tie, CHAIN, "a", "d")
        self.assert_word("tie", Tie, ONE, "b", "a")
        self.assert_word("tie", Tie, CHAIN, "d", "a")
        for later, earlier in (("a", "b"), ("a", "a"), ("a", "k"), ("k", "b")):
            self.assert_word("tie", Untie, ONE, later, earlier)
        self.assert_word("tie", Untie, CHAIN, "c", "a")
        self.assert_word("row", Untie, ONE, "b", "a")
        self.assert_word("row", Untie, CHAIN, "d", "c", ("c", "d"))

    def test_splits_that_there_are_not(self):
        cells = cells_of(CHAIN, "d")
        for new in ("a", "d", "e"):
            for wrong in ((), cells[:1]):
                self.assert_word("name", Split, CHAIN, "d", new, wrong)
        for wrong in ((), cells, cells[1::-1], cells[:1] * 2, ((0, 3),), cells[:1] + ((4, 0),), cells + ((4, 0),)):
            self.assert_word("cells", Split, CHAIN, "d", "n", wrong, ("a",))
        self.assert_word("cells", Split, CHAIN, "a", "n", ((0, 0),))
        self.assert_word("cells", Split, CHAIN, "a", "n", ())

    def test_a_great_store(self):
        disk = tuple(((block, place), 0) for block in range(4) for place in range(3))
        names = tuple("m" + chr(97 + at) for at in range(12))
        store = Store(disk, tuple((name, ((cell, 1),)) for name, (cell, _) in zip(names, disk)), (("mb", "ma"),))
        start = time.perf_counter()
        source = random.Random(1)
        for _ in range(60):
            first, second = source.sample(names, 2)
            kept = tuple(name for name in names if name not in (first, second))
            if block_of(store, first) == block_of(store, second):
                self.assertIs(Join(store, first, second).rule(), True)
            if (first, second) not in (("ma", "mb"), ("mb", "ma")):
                self.assertIs(Tie(store, first, second).rule(), True)
                self.assertIs(Tie(store, first, second, names).rule(), False)
            self.assertIsNone(Drop(store, first, kept).rule())
        self.assertIsNone(Untie(store, "mb", "ma", names).rule())
        self.assertLess(time.perf_counter() - start, 10)

    def test_kinds_next_to_other_edits(self):
        join = Join(ONE, "a", "b", ("k",))
        drop = Drop(join.after, "a", ("k",))
        self.assertEqual(join.then(drop), Edit(ONE, drop.after, ("k",)))
        other = Drop(Store((((5, 5), 1),), (("z", (((5, 5), 1),)),), ()), "z")
        self.assertEqual((join | other).kept, ("k",))
        self.assertEqual((join | other).examine()[0], "table")
        self.assertEqual(Edit(NOTHING, NOTHING).rule(), True)
