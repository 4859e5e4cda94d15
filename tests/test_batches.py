"""Points 23 and 24: batch lots, batch lines, edits that are unnoticed in batches, and strangers in a batch."""

import itertools
import random
import time
import unittest

from heldparts.batches import batch_lines, batch_lots, batch_stranger_holds, examine_batch
from heldparts.contexts import Context
from heldparts.edits import Edit
from heldparts.errors import NoStore
from heldparts.stores import Store
from tests import batch_model
from tests.edit_samples import random_context, random_edit, random_store, ring_context
from tests.lot_model import around, model_of
from tests.samples import ANY, BARE, NOTHING, ONE, X, Y
from tests.test_strangers import is_context, of_other_kinds, otherwise, suits_edit


def moved(source, store, kept):
    """A store like another one, with some changes of one cell moved to other blocks, others left out, others added."""
    changes, places = [], {}
    for name, writes in store.changes:
        way = source.random()
        if name in kept or way < 0.5:
            changes.append((name, writes))
        elif way < 0.8:
            places[name] = source.choice(store.cells)
            changes.append((name, ((places[name], source.randint(0, 1)),)))
    for name in ("n", "o"):
        if source.random() < 0.3 and store.cells:
            changes.append((name, ((source.choice(store.cells), source.randint(0, 1)),)))
    names = [name for name, _ in changes]
    order = list(names)
    source.shuffle(order)
    ties = [tie for tie in itertools.combinations(order, 2) if source.random() < 0.2]
    for cell in store.cells:
        row = [name for name in order if cell in dict(dict(changes)[name])]
        ties += list(zip(row, row[1:]))
    return Store(store.disk, tuple(changes), tuple(ties))


def batch_edit(seed):
    source = random.Random(seed)
    if seed % 3 == 0:
        return random_edit(seed)
    store = random_store(source, 6, cells=source.choice([2, 4, 5]), least=source.choice([0, 3]))
    kept = tuple(name for name in store.names if source.random() < source.choice([0, 0.3]))
    after = store
    if seed % 3 == 1:
        # Ties of changes in one block, and between blocks one of which needs the other one already, are not seen.
        for _ in range(3):
            later, earlier = source.sample(store.names, 2) if len(store) > 1 else (None, None)
            try:
                after = after.tied(later, earlier) if later else after
            except NoStore:
                continue
        return Edit(*source.choice([(store, after), (after, store)]), kept)
    try:
        after = moved(source, store, kept)
    except NoStore:
        kept = ()
    return Edit(store, after, kept)


EDITS = tuple(batch_edit(seed) for seed in range(900))
BLOCKS = tuple((at, 0) for at in range(10))
NAMES = tuple("abcdefghij")


def ten_blocks(ties):
    return Store(tuple((cell, 0) for cell in BLOCKS), tuple((name, ((cell, 1),)) for name, cell in zip(NAMES, BLOCKS)), ties)


def made_strangers(edit, source):
    """Strangers in a batch that are made here, of all three kinds."""
    found = [("memory",)] if batch_model.is_stranger(edit, ("memory",)) else []
    for count in range(5):
        parts = random_context(source, edit, 4) if count else ring_context(source, edit)
        if parts is not None and suits_edit(parts, edit):
            before, after = around(parts, edit.before), around(parts, edit.after)
            if (before is None) != (after is None):
                found.append(("ring", parts))
            elif before is not None:
                found += [("lot", parts, lot) for lot in batch_model.new_lots(before, after)[:3]]
    return found


class TestBatchLots(unittest.TestCase):

    def test_against_all_sets_of_whole_blocks(self):
        for edit in EDITS[:300]:
            for store in (edit.before, edit.after):
                text = store.text
                self.assertEqual(list(batch_lots(store)), batch_model.batch_lots(model_of(store)))
                self.assertEqual(list(batch_lots(store=store)), list(batch_lots(store)))
                self.assertEqual(store.text, text)

    def test_blocks_that_stand_behind_one_another(self):
        changes = (("a", ((X, 1),)), ("b", ((Y, 1),)), ("c", (((0, 1), 1),)), ("d", (((5, 0), 1),)))
        store = Store(((X, 0), ((0, 1), 0), (Y, 0), ((5, 0), 0)), changes, (("b", "a"), ("c", "b")))
        self.assertEqual(list(batch_lots(store)), [(), ("d",), ("a", "b", "c"), ("a", "b", "c", "d")])

    def test_ten_blocks(self):
        row = ten_blocks(tuple(zip(NAMES[1:], NAMES)))
        self.assertEqual(list(batch_lots(row)), [NAMES[:count] for count in range(11)])
        other = ten_blocks(tuple(zip(NAMES, NAMES[1:])))
        self.assertEqual(list(batch_lots(other)), [NAMES[10 - count:] for count in range(11)])
        every = [part for count in range(11) for part in itertools.combinations(NAMES, count)]
        self.assertEqual(list(batch_lots(ten_blocks(()))), every)
        self.assertEqual(list(batch_lots(NOTHING)), [()])
        for ties in (row.ties, other.ties, (), (("b", "a"), ("d", "c")), (("a", "j"), ("b", "j"), ("j", "e"))):
            store = ten_blocks(ties)
            self.assertEqual(list(batch_lots(store)), batch_model.batch_lots(model_of(store)))

    def test_first_ones_of_very_many(self):
        disk = tuple(((at, 0), 0) for at in range(24))
        names = [chr(97 + at) for at in range(24)]
        store = Store(disk, tuple((name, ((cell, 1),)) for name, (cell, _) in zip(names, disk)), ())
        start = time.perf_counter()
        self.assertEqual(list(itertools.islice(batch_lots(store), 26))[-1], ("a", "b"))
        self.assertLess(time.perf_counter() - start, 5)


class TestBatchLines(unittest.TestCase):

    def test_against_all_choices(self):
        free = 0
        for edit in EDITS:
            lines = batch_lines(edit)
            self.assertEqual(lines, batch_model.batch_lines(edit))
            self.assertEqual(batch_lines(edit=edit), lines)
            free = max(free, len({line[1] for line in lines}))
        self.assertGreaterEqual(free, 2)

    def test_edits_that_empty_a_store(self):
        store = ten_blocks(tuple(zip(NAMES[1:], NAMES)))
        empty = Store.empty(store.disk)
        lines = batch_lines(Edit(store, empty))
        self.assertEqual(len(lines), 1024)
        self.assertEqual([line[1] for line in lines[:12]], [()] + [(at,) for at in range(10)] + [(0, 1)])
        self.assertEqual(lines[-1], ((), tuple(range(10)), NAMES))
        self.assertEqual(lines[2], ((), (1,), ("b",)))
        back = batch_lines(Edit(empty, store))
        self.assertEqual(back, tuple((lot, (), ()) for lot in batch_lots(store)))
        self.assertEqual(batch_lines(Edit(NOTHING, NOTHING)), (((), (), ()),))

    def test_one_example_by_hand(self):
        self.assertEqual(batch_lines(Edit(BARE, ONE)), (((), (), ()), (("k",), (), ("k",)), (("a", "b", "k"), (), ("k",))))


class TestExamineBatch(unittest.TestCase):

    def test_against_the_criterion(self):
        kinds = {"lines": 0, "memory": 0, "ring": 0, "lot": 0}
        for edit in EDITS:
            told = examine_batch(edit)
            kinds[told[0]] += 1
            self.assertIs(told[0] == "lines", batch_model.unnoticed(edit))
            self.assertEqual(examine_batch(edit=edit), told)
            if told[0] == "lines":
                self.assertEqual(told, ("lines", batch_lines(edit)))
                self.assertIs(batch_stranger_holds(edit, told), False)
                continue
            self.assertIs(batch_model.is_stranger(edit, told), True)
            self.assertIs(batch_stranger_holds(edit, told), True)
            memory = model_of(edit.before).memory() != model_of(edit.after).memory()
            shown = model_of(edit.before).shown(edit.kept) != model_of(edit.after).shown(edit.kept)
            self.assertEqual(told[0], "memory" if memory else "ring" if shown else "lot")
            if told[0] == "ring":
                self.assertEqual(len(told[1][1]), 1)
            if told[0] == "lot":
                blocks = set(edit.before.blocks) | set(edit.after.blocks)
                self.assertLessEqual(len(told[1][1]), len(edit.kept) + len(blocks))
        self.assertGreater(min(kinds.values()), 30, kinds)

    def test_no_context_notices_what_is_unnoticed(self):
        source = random.Random(3)
        asked = 0
        for edit in EDITS:
            found = made_strangers(edit, source)
            if batch_model.unnoticed(edit):
                self.assertEqual(found, [])
                asked += 1
        self.assertGreater(asked, 100)

    def test_unnoticed_in_one_way_only(self):
        # Left out in batches: the changes of one block are written together, so a value between them is never there.
        disk = ((X, 0), ((0, 1), 0))
        changes = (("a", ((X, 1),)), ("b", (((0, 1), 1),)))
        edit = Edit(Store(disk, changes, (("b", "a"),)), Store(disk, changes, ()))
        self.assertEqual(edit.examine()[0], "lot")
        self.assertEqual(examine_batch(edit)[0], "lines")
        # A change and its reversal: without them the tie of the other block on them is gone in batches.
        edit = Edit(ONE, Store(ONE.disk, (("k", ((Y, 1),)),), ()))
        self.assertEqual(examine_batch(edit)[0], "lot")
        ghost = Store(ONE.disk, (("g", ((X, 0),)), ("k", ((Y, 1),))), (("g", "k"),))
        later = Store(ONE.disk, (("g", ((X, 0),)), ("k", ((Y, 1),))), ())
        self.assertEqual(Edit(ghost, later).examine()[0], "lot")
        self.assertEqual(examine_batch(Edit(ghost, later))[0], "lot")
        self.assertEqual(Edit(later, ghost).examine()[0], "table")
        self.assertEqual(examine_batch(Edit(later, ghost))[0], "lines")

    def test_ten_blocks(self):
        row, free = ten_blocks(tuple(zip(NAMES[1:], NAMES))), ten_blocks(())
        self.assertEqual(examine_batch(Edit(free, row))[0], "lines")
        edit = Edit(row, free)
        told = examine_batch(edit)
        self.assertEqual(told[0], "lot")
        self.assertIs(batch_stranger_holds(edit, told), True)
        self.assertEqual(len(examine_batch(Edit(free, free))[1]), 1024)

    def test_a_late_line_of_very_many(self):
        disk = tuple(((at, 0), 0) for at in range(12))
        names = tuple("m" + chr(97 + at) for at in range(12))
        store = Store(disk, tuple((name, ((cell, 1),)) for name, (cell, _) in zip(names, disk)), ())
        added = tuple(("n" + chr(97 + at), (((at + 20, 0), 1),)) for at in range(12))
        context = Context(tuple(((at + 20, 0), 0) for at in range(12)), added, ())
        edit = Edit(store.tied("ml", "mk"), store).within(context)
        start = time.perf_counter()
        told = examine_batch(edit)
        self.assertIs(batch_stranger_holds(edit, told), True)
        lot = tuple(sorted([name for name, _ in added] + ["ml"]))
        inner = Edit(store.tied("ml", "mk"), store)
        self.assertIs(batch_stranger_holds(inner, ("lot", context.parts, lot)), True)
        self.assertIs(batch_stranger_holds(inner, ("lot", context.parts, lot[1:])), False)
        self.assertIs(batch_stranger_holds(inner, ("lot", context.parts, tuple(sorted(lot + ("mk",))))), False)
        self.assertLess(time.perf_counter() - start, 5)


class TestBatchStrangerHolds(unittest.TestCase):

    def test_made_strangers(self):
        source = random.Random(5)
        kinds = {"memory": 0, "ring": 0, "lot": 0}
        for edit in EDITS:
            for thing in made_strangers(edit, source):
                kinds[thing[0]] += 1
                self.assertIs(batch_stranger_holds(edit, thing), True)
                self.assertIs(batch_stranger_holds(thing=thing, edit=edit), True)
                self.assertNotEqual(examine_batch(edit)[0], "lines")
        self.assertGreater(min(kinds.values()), 50, kinds)

    def test_one_or_two_things_put_otherwise(self):
        source = random.Random(6)
        answers = {True: 0, False: 0}
        for edit in EDITS[::3]:
            told = examine_batch(edit)
            for thing in made_strangers(edit, source)[:3] + ([told] if told[0] in ("ring", "lot") else []):
                if len(thing) == 1:
                    continue
                choices = otherwise(thing, source)
                twice = source.choice(choices)
                for other in choices + otherwise(twice, source)[:8]:
                    expected = is_context(other[1]) and batch_model.is_stranger(edit, other)
                    answers[expected] += 1
                    self.assertIs(batch_stranger_holds(edit, other), expected)
        self.assertGreater(min(answers.values()), 200, answers)

    def test_values_of_other_kinds(self):
        source = random.Random(7)
        asked = 0
        for edit in EDITS[::9]:
            for thing in ANY:
                self.assertIs(batch_stranger_holds(edit, thing), False)
                for other in ((thing,), ("memory", thing), ("ring", thing), ("lot", thing, ()), ("lot", ((), (), ()), thing)):
                    self.assertIn(batch_stranger_holds(edit, other), (True, False))
            for thing in made_strangers(edit, source)[:3]:
                if len(thing) > 1:
                    asked += 1
                    for other in of_other_kinds(thing):
                        self.assertIs(batch_stranger_holds(edit, other), False, other)
        self.assertGreater(asked, 20)

    def test_the_lot_has_whole_blocks(self):
        disk = ((X, 0), ((0, 1), 0))
        changes = (("a", ((X, 1),)), ("b", (((0, 1), 1),)))
        edit = Edit(Store(disk, changes, (("b", "a"),)), Store(disk, changes, ()))
        self.assertIs(batch_stranger_holds(edit, ("lot", ((), (), ()), ("b",))), False)
        self.assertIs(batch_stranger_holds(edit, ("lot", ((), (), ()), ("a", "b"))), False)
        self.assertIs(batch_stranger_holds(edit, ["memory"]), False)


class TestContextsWithManyBlocks(unittest.TestCase):

    def test_twenty_four_blocks(self):
        disk = tuple(((at, 0), 0) for at in range(12))
        names = tuple("m" + chr(97 + at) for at in range(12))
        far = tuple(((at + 12, 0), 0) for at in range(12))
        added = tuple(("n" + chr(97 + at), ((cell, 1),)) for at, (cell, _) in enumerate(far))
        changes = tuple((name, ((cell, 1),)) for name, (cell, _) in zip(names, disk))
        row = Store(disk, changes, tuple(zip(names[1:], names)))
        free = Store(disk, changes, ())
        start = time.perf_counter()
        for before, after, lot, expected in (
                (row, free, names[3:], True), (free, row, names[:3], False), (row, row, names[:5], False),
                (row, free, names, False), (row, free, names[:7], False), (row, free, (), False)):
            edit = Edit(before, after, names)
            for some in ((), added[:1], added):
                for ties in ((), tuple((name, names[0]) for name, _ in some)):
                    if ties and names[0] not in lot:
                        continue
                    whole = tuple(sorted(lot + tuple(name for name, _ in some)))
                    self.assertIs(batch_stranger_holds(edit, ("lot", (far, added, ties), whole)), expected)
        self.assertLess(time.perf_counter() - start, 10)
