"""Points 3, 10, 11, 13, 14, 20 and 21, with the interface of edits: tables, strangers, edits of edits."""

import random
import unittest

from heldparts.contexts import Context
from heldparts.edits import Edit, shown_pairs
from heldparts.errors import NoContext, NoEdit, NoStore, Ring, TooMany
from heldparts.stores import Store
from tests.edit_samples import random_context, random_edit, random_store
from tests.lot_model import (
    around, is_stranger, least_table, model_of, noticed, suits, table_choices)
from tests.samples import ANY, BARE, CHAIN, DISK, EMPTY, NOTHING, ONE, X, Y, Z

JOINED = Store(DISK, (("a", ((X, 0),)), ("k", ((Y, 1),))), (("a", "k"),))
EDITS = tuple(random_edit(seed) for seed in range(700))


def parts_of(edit):
    return (edit.before.text, edit.after.text, edit.kept)


class OtherEdit(Edit):
    """A class below Edit."""


class Unchanged(unittest.TestCase):
    """No test of this file may change the edits that it asks."""

    @classmethod
    def setUpClass(cls):
        cls.kept_parts = [parts_of(edit) for edit in EDITS]

    @classmethod
    def tearDownClass(cls):
        assert [parts_of(edit) for edit in EDITS] == cls.kept_parts

    def assert_word(self, word, kind, call, *arguments, **named):
        with self.assertRaises(kind) as caught:
            call(*arguments, **named)
        self.assertIs(type(caught.exception), kind)
        self.assertEqual(caught.exception.word, word)


class TestEdit(Unchanged):

    def test_attributes(self):
        edit = Edit(ONE, BARE, ("k",))
        self.assertIs(edit.before, ONE)
        self.assertIs(edit.after, BARE)
        self.assertEqual(edit.kept, ("k",))
        self.assertEqual(Edit(ONE, BARE).kept, ())
        for name in ("before", "after", "kept"):
            self.assertIn(name, vars(edit))
        self.assertEqual(Edit(kept=("k",), after=BARE, before=ONE), edit)

    def test_errors_in_their_order(self):
        other = Store(((X, 1), (Y, 0)), BARE.changes, ())
        for store in (other, NOTHING, CHAIN, Store(DISK + ((Z, 0),), BARE.changes, ())):
            self.assert_word("disk", NoEdit, Edit, ONE, store)
            self.assert_word("disk", NoEdit, Edit, ONE, store, ("zz", "a"))
        for kept in (("a",), ("k", "k"), ("b", "k"), ("zz",), ("k", "zz"), ("a", "b", "k"), ("",), ("kk",)):
            self.assert_word("kept", NoEdit, Edit, ONE, BARE, kept)
            self.assert_word("kept", NoEdit, Edit, BARE, ONE, kept)
        self.assert_word("kept", NoEdit, Edit, ONE, ONE, ("b", "a"))
        self.assert_word("kept", NoEdit, Edit, ONE, JOINED, ("a",))
        self.assert_word("kept", NoEdit, Edit, before=ONE, after=JOINED, kept=("a", "k"))
        self.assertEqual(Edit(ONE, ONE, ("a", "b", "k")).kept, ("a", "b", "k"))

    def test_equality(self):
        self.assertIs(Edit(ONE, BARE, ("k",)) == Edit(Store.read(ONE.text), Store.read(BARE.text), ("k",)), True)
        self.assertIs(Edit(ONE, BARE) != Edit(ONE, BARE), False)
        self.assertIs(Edit(ONE, BARE) == OtherEdit(ONE, BARE), True)
        self.assertIs(OtherEdit(ONE, BARE) == Edit(ONE, BARE), True)
        self.assertIs(OtherEdit(ONE, BARE) != Edit(ONE, BARE), False)
        for other in (Edit(ONE, BARE, ("k",)), Edit(BARE, ONE), Edit(ONE, ONE), Edit(BARE, BARE), None, ONE, (ONE, BARE, ())):
            self.assertIs(Edit(ONE, BARE) == other, False)
            self.assertIs(Edit(ONE, BARE) != other, True)
        for thing in ANY:
            self.assertIs(Edit(ONE, BARE) == thing, False)

    def test_rule(self):
        for edit in EDITS:
            self.assertIs(edit.rule(), True if edit.before == edit.after else None)
        self.assertIs(OtherEdit(ONE, ONE).rule(), True)
        self.assertIs(Edit(ONE, BARE).rule(), None)
        self.assertIs(Edit(NOTHING, NOTHING).rule(), True)


class TestExamine(Unchanged):

    def test_against_all_lots(self):
        counts = {"table": 0, "memory": 0, "ring": 0, "lot": 0}
        for edit in EDITS:
            told = edit.examine()
            counts[told[0]] += 1
            table = least_table(edit)
            self.assertEqual(told == ("table", table), table is not None)
            self.assertEqual(told[0] == "table", table is not None)
            self.assertEqual(edit.examine(), told)
            if table is None:
                self.assert_stranger(edit, told)
        self.assertGreater(min(counts.values()), 10)
        self.assertGreater(sum(edit.before != edit.after and edit.examine()[0] == "table" for edit in EDITS), 100)

    def assert_stranger(self, edit, thing):
        self.assertIs(is_stranger(edit, thing), True)
        before, after = model_of(edit.before), model_of(edit.after)
        if before.memory() != after.memory():
            self.assertEqual(thing, ("memory",))
            return
        unlike = before.shown(edit.kept) != after.shown(edit.kept)
        self.assertEqual(thing[0], "ring" if unlike else "lot")
        self.assertEqual(len(thing), 2 if unlike else 3)
        self.assertEqual(Context(*thing[1]).parts, thing[1])
        added = len(thing[1][1])
        self.assertLessEqual(added, 1 if unlike else len(edit.kept) + len(edit.before.cells))

    def test_there_is_only_one_least_lot(self):
        for edit in EDITS:
            for lot, choices in table_choices(edit) or ():
                least = min(choices, key=len)
                self.assertTrue(all(set(least) <= set(other) for other in choices))

    def test_a_table_means_that_no_context_notices(self):
        source = random.Random(1)
        asked = 0
        for edit in EDITS:
            if edit.examine()[0] == "table" and edit.before != edit.after:
                for _ in range(4):
                    parts = random_context(source, edit)
                    if suits(parts, edit.before, edit.kept) and suits(parts, edit.after, edit.kept):
                        asked += 1
                        self.assertIsNone(noticed(edit, parts))
        self.assertGreater(asked, 300)

    def test_examples(self):
        self.assertEqual([Edit(ONE, BARE, ("k",)).examine()[0], Edit(ONE, BARE).examine()[0]], ["ring", "lot"])
        self.assertEqual(Edit(ONE, JOINED, ("k",)).examine(),
                         ("table", (((), ()), (("k",), ("k",)), (("a", "k"), ("a", "b", "k")))))
        with self.assertRaises(TooMany) as caught:
            Edit(ONE, BARE).examine(limit=1)
        self.assertEqual(caught.exception.limit, 1)

    def test_too_many(self):
        for edit in EDITS[:200] + (Edit(ONE, EMPTY), Edit(NOTHING, NOTHING), Edit(EMPTY, ONE)):
            count = len(model_of(edit.after).lots())
            told = edit.examine(limit=count)
            self.assertEqual(edit.examine(limit=count + 1), told)
            self.assertEqual(edit.examine(limit=2000), told)
            for limit in {0, count - 1}:
                with self.assertRaises(TooMany) as caught:
                    edit.examine(limit=limit)
                self.assertEqual(caught.exception.limit, limit)

    def test_too_many_whatever_else_is_so(self):
        disk = tuple(((at, 0), 0) for at in range(9))
        many = Store(disk, tuple(("n" + chr(97 + at), (((at, 0), 1),)) for at in range(9)), ())
        few = Store.empty(disk)
        for before in (few, many, many.tied("nb", "na")):
            with self.assertRaises(TooMany) as caught:
                Edit(before, many, before.names).examine()
            self.assertEqual(caught.exception.limit, 500)
        self.assertEqual(Edit(many, few).examine(), ("memory",))
        self.assertEqual(Edit(many, many).examine(limit=512)[0], "table")

    def test_only_by_name(self):
        with self.assertRaises(TypeError):
            Edit(ONE, BARE).examine(5)


class TestShownPairs(Unchanged):

    def test_against_the_words(self):
        for seed in range(150):
            store = random_store(random.Random(seed))
            for kept in ((), store.names, store.names[::2], store.names[1::2]):
                self.assertEqual(shown_pairs(store, kept), model_of(store).shown(kept))
                self.assertEqual(shown_pairs(kept=kept, store=store), model_of(store).shown(kept))

    def test_examples(self):
        self.assertEqual([shown_pairs(ONE, ("k",)), shown_pairs(BARE, ("k",))],
                         [((), (("k", (0, 0)), ("k", (1, 0)))), ((), (("k", (1, 0)),))])
        self.assertEqual(shown_pairs(ONE, ("a", "b", "k"))[0], (("a", "b"), ("k", "b")))
        self.assertEqual(shown_pairs(NOTHING, ()), ((), ()))


def moved(store, letter, block):
    """A store with a letter before each name and other blocks, so that it has nothing in common with others."""
    def name(old):
        return letter + old

    return Store(
        tuple((((cell[0] + block, cell[1]), value) for cell, value in store.disk)),
        tuple((name(old), tuple(((cell[0] + block, cell[1]), value) for cell, value in writes)) for old, writes in store.changes),
        tuple((name(later), name(earlier)) for later, earlier in store.ties))


class TestSideBySide(Unchanged):

    def test_the_edit_that_is_returned(self):
        for at in range(0, 120, 2):
            one, two = EDITS[at], EDITS[at + 1]
            other = Edit(moved(two.before, "x", 20), moved(two.after, "x", 20), tuple("x" + name for name in two.kept))
            both = one | other
            expected = Edit(
                one.before | other.before, one.after | other.after, tuple(sorted(one.kept + other.kept)))
            self.assertIs(type(both), Edit)
            self.assertEqual(both, expected)
            self.assertEqual(other | one, expected)
            if one.examine()[0] == "table" and other.examine()[0] == "table":
                self.assertEqual(both.examine(limit=2000)[0], "table")

    def test_errors_in_their_order(self):
        far = Edit(moved(ONE, "x", 9), moved(BARE, "x", 9))
        self.assert_word("cell", NoStore, lambda: Edit(ONE, BARE) | Edit(ONE, BARE))
        self.assert_word("cell", NoStore, lambda: Edit(ONE, BARE) | Edit(EMPTY, EMPTY))
        same_names = Edit(Store(far.before.disk, (("k", (((9, 0), 1),)),), ()), Store.empty(far.before.disk))
        self.assert_word("name", NoStore, lambda: Edit(ONE, BARE) | same_names)
        self.assert_word("name", NoStore, lambda: Edit(EMPTY, BARE) | Edit(same_names.after, same_names.before))
        self.assertEqual((Edit(EMPTY, BARE) | same_names).after, BARE | same_names.after)
        with self.assertRaises(TypeError):
            Edit(ONE, BARE) | ONE


class TestThen(Unchanged):

    def test_the_edit_that_is_returned(self):
        source = random.Random(2)
        for first in EDITS[:150]:
            kept = tuple(name for name in first.after.names if source.random() < 0.5)
            second = Edit(first.after, first.after, kept)
            both = tuple(name for name in first.kept if name in kept)
            self.assertEqual(first.then(second), Edit(first.before, first.after, both))
            self.assertEqual(Edit(first.before, first.before, first.kept).then(other=first), first)
            there = first.then(Edit(first.after, first.before, first.kept))
            self.assertEqual(there, Edit(first.before, first.before, first.kept))
            self.assertIs(type(OtherEdit(first.before, first.after).then(second)), Edit)

    def test_they_do_not_follow(self):
        self.assert_word("store", NoEdit, Edit(ONE, BARE).then, Edit(ONE, BARE))
        self.assert_word("store", NoEdit, Edit(ONE, BARE).then, Edit(EMPTY, BARE))
        self.assert_word("store", NoEdit, Edit(ONE, BARE).then, Edit(NOTHING, NOTHING))
        self.assertEqual(Edit(ONE, BARE).then(Edit(Store.read(BARE.text), ONE)), Edit(ONE, ONE))


class TestWithin(Unchanged):

    def test_the_edit_that_is_returned(self):
        source = random.Random(3)
        told = {"suits": 0, "before": 0, "after": 0, "edit": 0}
        for edit in EDITS * 5:
            parts = random_context(source, edit)
            if not (suits(parts, edit.before, edit.kept) and suits(parts, edit.after, edit.kept)):
                told["suits"] += 1
                self.assert_word("suits", NoContext, edit.within, Context(*parts))
                continue
            before, after = around(parts, edit.before), around(parts, edit.after)
            if before is None or after is None:
                told["before" if before is None else "after"] += 1
                self.assert_ring(edit, parts)
                continue
            told["edit"] += 1
            within = edit.within(context=Context(*parts))
            names = tuple(sorted(edit.kept + tuple(name for name, _ in parts[1])))
            context = Context(*parts)
            self.assertEqual(within, Edit(
                context.around(edit.before, edit.kept), context.around(edit.after, edit.kept), names))
            if edit.examine()[0] == "table":
                self.assertEqual(within.examine(limit=2000)[0], "table")
        self.assertGreater(min(told.values()), 2)

    def assert_ring(self, edit, parts):
        first = None
        for store in (edit.before, edit.after):
            if around(parts, store) is None and first is None:
                first = store
        with self.assertRaises(Ring) as caught:
            edit.within(Context(*parts))
        with self.assertRaises(Ring) as expected:
            Context(*parts).around(first, edit.kept)
        self.assertEqual(caught.exception.names, expected.exception.names)

    def test_it_does_not_suit_and_closes_a_ring(self):
        context = Context((), (("a", ((X, 5),)),), (("k", "a"),))
        self.assertIs(context.suits(BARE, ("k",)), True)
        self.assert_word("suits", NoContext, Edit(BARE, ONE, ("k",)).within, context)
        ring = Context((), (("a", ((Y, 5),)),), (("k", "a"),))
        self.assertRaises(Ring, ring.around, BARE, ("k",))
        self.assert_word("suits", NoContext, Edit(BARE, ONE, ("k",)).within, ring)
        self.assertEqual(Edit(ONE, BARE, ("k",)).within(Context.nothing()), Edit(ONE, BARE, ("k",)))
