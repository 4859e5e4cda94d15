"""Points 17, 18, 19 and 33: views, their entries, what is within what, operations on views, texts of views."""

import random
import unittest

from heldparts.edits import Edit, shown_pairs
from heldparts.errors import NoStore, Ring, TooMany
from heldparts.stores import Store
from heldparts.views import View, are_alike
from tests.edit_samples import random_edit, random_store, store_with
from tests.lot_model import least_table, model_of, view_entries
from tests.samples import ANY, BARE, BIG, CHAIN, DISK, EMPTY, NOTHING, ONE, X, Y, Z
from tests.test_edits import JOINED, moved

EDITS = tuple(random_edit(seed) for seed in range(2000, 2500))
STORES = tuple(random_store(random.Random(seed), 6) for seed in range(120)) + tuple(
    store_with(seed) for seed in range(60)) + (ONE, BARE, CHAIN, EMPTY, NOTHING, JOINED)


def some_kept(source, store):
    share = source.choice([0, 0.4, 0.7, 1])
    return tuple(name for name in store.names if source.random() < share)


def text_of(entries):
    """Point 33."""
    lines = []
    for content, names, done in entries:
        values = []
        for at, (_, value) in enumerate(content):
            wide = max(len(str(other[0][at][1])) for other in entries)
            values.append(" " * (wide - len(str(value))) + str(value))
        wide = max(len(" ".join(other[1])) for other in entries)
        kept = " ".join(names)
        lines.append(" ".join(values) + " | " + kept + " " * (wide - len(kept)) + " | " + " ".join(
            str(block) + "." + str(place) for block, place in done))
    return "\n".join(lines)


class Views(unittest.TestCase):

    def assert_view(self, view, store, kept):
        """That a view is the one of a store with kept names, in every way of asking."""
        entries = view_entries(model_of(store).entries(kept))
        self.assertEqual(view.cells, store.cells)
        self.assertEqual(view.kept, kept)
        self.assertEqual(view.entries, entries)
        self.assertEqual(len(view), len(entries))
        self.assertEqual(view.shown, model_of(store).shown(kept))
        self.assertEqual(view.text, text_of(entries))
        self.assertIs(view == View.of(store, kept, limit=100000), True)
        for name in ("cells", "kept", "entries", "shown", "text"):
            self.assertIn(name, vars(view))

    def assert_word(self, word, call, *arguments):
        with self.assertRaises(NoStore) as caught:
            call(*arguments)
        self.assertIs(type(caught.exception), NoStore)
        self.assertEqual(caught.exception.word, word)


class TestOf(Views):

    def test_against_all_lots(self):
        source = random.Random(1)
        for store in STORES:
            for kept in {(), store.names, some_kept(source, store)}:
                self.assert_view(View.of(store, kept), store, kept)
                self.assertEqual(View.of(kept=kept, store=store, limit=500), View.of(store, kept))

    def test_none_is_covered(self):
        source = random.Random(2)
        for store in STORES:
            entries = View.of(store, some_kept(source, store)).entries
            self.assertEqual(list(entries), sorted(set(entries)))
            for content, names, done in entries:
                self.assertFalse(any(other[:2] == (content, names) and set(done) < set(other[2]) for other in entries))

    def test_examples(self):
        view = View.of(ONE, ("k",))
        told = [len(view), view.entries[1], View.of(JOINED, ("k",)).is_within(view),
                view.is_within(View.of(JOINED, ("k",)))]
        self.assertEqual(told, [4, ((((0, 0), 0), ((1, 0), 1)), ("k",), ((0, 0), (1, 0))), True, False])
        told = [view.released("k") == View.of(ONE, ()),
                view.added("c", ((Y, 2),), "k") == View.of(ONE.with_change("c", ((Y, 2),), "k"), ("c", "k"))]
        self.assertEqual(told, [True, True])
        self.assertEqual(View.of(JOINED, ("k",)).text, "0 0 |   | \n0 1 | k | 0.0 1.0")

    def test_stores_without_cells_and_without_changes(self):
        view = View.of(NOTHING, ())
        self.assertEqual((view.cells, view.kept, view.entries, view.shown), ((), (), (((), (), ()),), ((), ())))
        self.assertEqual((len(view), view.text), (1, " |  | "))
        view = View.of(EMPTY, ())
        self.assertEqual(view.entries, ((DISK, (), (X, Y)),))
        self.assertEqual(view.text, "0 0 |  | 0.0 1.0")
        self.assertIs(View.of(NOTHING, ()) == View.of(EMPTY, ()), False)
        self.assertIs(View.of(NOTHING, ()) == View.of(NOTHING, ()), True)

    def test_too_many(self):
        for store in STORES:
            count = len(model_of(store).lots())
            view = View.of(store, store.names, limit=count)
            self.assertEqual(View.of(store, store.names, limit=count + 1), view)
            for limit in {0, count - 1}:
                with self.assertRaises(TooMany) as caught:
                    View.of(store, store.names, limit=limit)
                self.assertEqual(caught.exception.limit, limit)

    def test_too_many_unless_said(self):
        disk = tuple(((at, 0), 0) for at in range(9))
        many = Store(disk, tuple(("n" + chr(97 + at), (((at, 0), 1),)) for at in range(9)), ())
        self.assertRaises(TooMany, View.of, many, ())
        self.assertEqual(len(View.of(many, (), limit=512)), 512)
        with self.assertRaises(TypeError):
            View.of(many, (), 600)


class TestText(Views):

    def test_filled_with_blanks(self):
        store = Store(((X, -5), (Y, BIG)), (("abc", ((X, 100),)), ("z", ((Y, -7),))), ())
        lines = View.of(store, ("abc", "z")).text.split("\n")
        pad = " " * 38
        self.assertEqual(lines, [
            f" -5 {pad}-7 | z     | 1.0", f" -5 {BIG} |       | ", f"100 {pad}-7 | abc z | 0.0 1.0",
            f"100 {BIG} | abc   | 0.0"])
        self.assertEqual(View.of(store, ()).text.split("\n")[1], f" -5 {BIG} |  | ")

    def test_places_of_two_digits(self):
        store = Store((((12, 345), 0),), (("a", (((12, 345), 10),)),), ())
        self.assertEqual(View.of(store, ("a",)).text, " 0 |   | \n10 | a | 12.345")


class TestWithin(Views):

    def test_exactly_if_unnoticed(self):
        counts = {True: 0, False: 0}
        for edit in EDITS:
            before, after = View.of(edit.before, edit.kept), View.of(edit.after, edit.kept)
            unnoticed = least_table(edit) is not None
            counts[unnoticed and edit.before != edit.after] += 1
            self.assertIs(after.is_within(before), unnoticed)
            self.assertIs(after.is_within(other=before), unnoticed)
            self.assertIs(before.is_within(after), least_table(Edit(edit.after, edit.before, edit.kept)) is not None)
        self.assertGreater(min(counts.values()), 50)

    def test_other_cells_or_names(self):
        view = View.of(ONE, ("k",))
        self.assertIs(view.is_within(view), True)
        for other in (View.of(ONE, ()), View.of(ONE, ("a", "k")), View.of(NOTHING, ()), View.of(CHAIN, ())):
            self.assertIs(view.is_within(other), False)
            self.assertIs(other.is_within(view), False)

    def test_the_reasons_one_by_one(self):
        free = Store(DISK, (("a", ((X, 0),)), ("k", ((Y, 0),))), ())
        tied = free.tied("a", "k")
        # Each entry of the tied store has one of the free store that will do; a shown pair is in the way.
        for content, names, done in View.of(tied, ("k",)).entries:
            self.assertTrue(any(other[:2] == (content, names) and set(done) <= set(other[2])
                                for other in View.of(free, ("k",)).entries))
        self.assertIs(View.of(tied, ("k",)).is_within(View.of(free, ("k",))), False)
        self.assertIs(View.of(tied, ("a", "k")).is_within(View.of(free, ("a", "k"))), False)
        self.assertIs(View.of(tied, ()).is_within(View.of(free, ())), True)
        # The same content and names, but a cell that is done in the one only.
        late = Store(DISK, (("a", ((X, 0),)), ("k", ((Y, 1),))), (("a", "k"),))
        bare = Store(DISK, (("k", ((Y, 1),)),), ())
        self.assertIs(View.of(bare, ()).is_within(View.of(late, ())), False)
        self.assertIs(View.of(late, ()).is_within(View.of(bare, ())), True)

    def test_equality(self):
        view = View.of(ONE, ("k",))
        self.assertIs(view == View.of(Store.read(ONE.text), ("k",)), True)
        self.assertIs(view != View.of(ONE, ("k",)), False)
        for other in (View.of(ONE, ()), View.of(JOINED, ("k",)), View.of(BARE, ("k",)), None, ONE, view.entries):
            self.assertIs(view == other, False)
            self.assertIs(view != other, True)
        for thing in ANY:
            self.assertIs(view == thing, False)

    def test_alike(self):
        counts = {True: 0, False: 0}
        for edit in EDITS:
            there = least_table(edit) is not None
            back = least_table(Edit(edit.after, edit.before, edit.kept)) is not None
            counts[there and back and edit.before != edit.after] += 1
            self.assertIs(are_alike(edit.before, edit.after, edit.kept), there and back)
            self.assertIs(are_alike(kept=edit.kept, other=edit.before, store=edit.after), there and back)
        self.assertGreater(min(counts.values()), 15)

    def test_alike_or_too_many(self):
        for edit in EDITS[:150]:
            counts = [len(model_of(store).lots()) for store in (edit.before, edit.after)]
            told = are_alike(edit.before, edit.after, edit.kept)
            self.assertIs(are_alike(edit.before, edit.after, edit.kept, limit=max(counts)), told)
            for limit in {0, max(counts) - 1}:
                with self.assertRaises(TooMany) as caught:
                    are_alike(edit.before, edit.after, edit.kept, limit=limit)
                self.assertEqual(caught.exception.limit, limit)
        with self.assertRaises(TypeError):
            are_alike(ONE, ONE, (), 500)


class TestOperations(Views):

    def random_move(self, source, view, store, kept):
        """An operation on a view, with the store and kept names that the same operation leads to."""
        way = source.choice(["added", "added", "released", "renamed", "tied", "beside"])
        if way == "added" and len(store) < 8 and store.cells:
            block = source.choice(store.cells)[0]
            near = [cell for cell in store.cells if cell[0] == block]
            writes = tuple((cell, source.randint(0, 2)) for cell in sorted(source.sample(near, source.randint(1, len(near)))))
            name = source.choice([name for name in ("m", "mm", "n", "o", "aaa", "zz", "y", "x") if name not in store])
            after = tuple(other for other in kept if source.random() < 0.3) * source.choice([1, 2])
            return view.added(name, writes, *after), store.with_change(name, writes, *after), tuple(sorted(kept + (name,)))
        if way == "released":
            names = tuple(name for name in kept if source.random() < 0.3) * source.choice([1, 2])
            return view.released(*names), store, tuple(name for name in kept if name not in names)
        if way == "renamed" and kept:
            old, new = source.choice(kept), source.choice([name for name in ("r", "aab", "zzz", "s") if name not in store])
            return view.renamed(old, new), renamed(store, old, new), tuple(sorted(set(kept) - {old} | {new}))
        if way == "tied" and len(kept) > 1:
            later, earlier = source.sample(kept, 2)
            if not store.is_before(later, earlier):
                return view.tied(later, earlier), store.tied(later, earlier), kept
        if way == "beside" and len(store) < 5 and not any(cell[0] > 8 for cell in store.cells):
            other = moved(random_store(source, 2, 2), "q", 9)
            names = some_kept(source, other)
            if not any(name in store for name in other.names):
                return view | View.of(other, names), store | other, tuple(sorted(kept + names))
        return view, store, kept

    def test_rows_of_operations(self):
        source = random.Random(3)
        for seed in range(400):
            store = random_store(source, 4)
            kept = some_kept(source, store)
            view = View.of(store, kept)
            for _ in range(5):
                before = (view.cells, view.kept, view.entries, view.shown, view.text)
                made, store, kept = self.random_move(source, view, store, kept)
                self.assertEqual((view.cells, view.kept, view.entries, view.shown, view.text), before)
                view = made
                self.assert_view(view, store, kept)

    def test_added(self):
        for store in STORES[:60] + (ONE, BARE, EMPTY):
            for cell in store.cells:
                for kept in {(), store.names}:
                    for after in {(), kept, kept[:1] * 2}:
                        writes = ((cell, 7),)
                        made = View.of(store, kept).added("new", writes, *after)
                        self.assert_view(made, store.with_change("new", writes, *after), tuple(sorted(kept + ("new",))))
        self.assertEqual(View.of(ONE, ("k",)).added(name="c", writes=((X, 1),)), View.of(
            ONE.with_change("c", ((X, 1),)), ("c", "k")))

    def test_added_errors_in_their_order(self):
        view = View.of(ONE, ("a", "k"))
        self.assert_word("cell", view.added, "c", ((Z, 1),))
        self.assert_word("cell", view.added, "a", ((Z, 1),))
        self.assert_word("cell", view.added, "c", ((X, 1), ((0, 1), 1)), "k")
        self.assert_word("name", view.added, "a", ((X, 1),))
        self.assert_word("name", view.added, "k", ((X, 1),), "a")
        self.assert_word("cell", View.of(NOTHING, ()).added, "a", ((X, 1),))

    def test_released(self):
        source = random.Random(4)
        for store in STORES:
            kept = some_kept(source, store)
            for names in {(), kept, kept[:1], kept[1:] * 2, kept[::-1]}:
                rest = tuple(name for name in kept if name not in names)
                self.assert_view(View.of(store, kept).released(*names), store, rest)
            self.assert_word("name", View.of(store, kept).released, *kept, "zzzz")
            for name in store.names:
                if name not in kept:
                    self.assert_word("name", View.of(store, kept).released, name)

    def test_renamed(self):
        for store in STORES[:80]:
            for old in store.names:
                for new in ("aaaa", "m", "zzzz"):
                    kept = tuple(sorted(set(store.names) - {old} | {new}))
                    self.assert_view(View.of(store, store.names).renamed(old, new), renamed(store, old, new), kept)
        view = View.of(ONE, ("a", "k"))
        self.assertEqual(view.renamed(new="c", old="a"), view.renamed("a", "c"))
        self.assertEqual(view.renamed("a", "b").kept, ("b", "k"))
        for old, new in (("b", "c"), ("zz", "a"), ("a", "a"), ("a", "k"), ("k", "a"), ("b", "b"), ("zz", "zz")):
            self.assert_word("name", view.renamed, old, new)

    def test_tied(self):
        for store in STORES[:80]:
            view = View.of(store, store.names)
            for later in store.names:
                for earlier in store.names:
                    if later == earlier or store.is_before(later, earlier):
                        with self.assertRaises(Ring) as caught:
                            view.tied(later, earlier)
                        self.assertEqual(caught.exception.names, (later, earlier))
                        continue
                    self.assert_view(view.tied(later, earlier), store.tied(later, earlier), store.names)
                    if store.is_before(earlier, later):
                        self.assertEqual(view.tied(later=later, earlier=earlier), view)
        view = View.of(ONE, ("a", "b"))
        for later, earlier in (("k", "a"), ("a", "k"), ("k", "k"), ("zz", "zz"), ("b", "zz")):
            self.assert_word("name", view.tied, later, earlier)

    def test_side_by_side(self):
        source = random.Random(5)
        for at in range(0, 100, 2):
            store, other = STORES[at], moved(STORES[at + 1], "x", 30)
            kept, names = some_kept(source, store), some_kept(source, other)
            if len(store) + len(other) < 9:
                both = View.of(store, kept) | View.of(other, names)
                self.assert_view(both, store | other, tuple(sorted(kept + names)))
                self.assertEqual(View.of(other, names) | View.of(store, kept), both)
        view = View.of(ONE, ("k",))
        far = Store((((9, 0), 0),), (("k", (((9, 0), 1),)),), ())
        self.assert_word("cell", lambda: view | view)
        self.assert_word("cell", lambda: view | View.of(EMPTY, ()))
        self.assert_word("name", lambda: view | View.of(far, ("k",)))
        self.assertEqual((view | View.of(far, ())).kept, ("k",))
        self.assertEqual(view | View.of(NOTHING, ()), view)
        with self.assertRaises(TypeError):
            view | ONE

    def test_shown_pairs_follow_from_the_view(self):
        source = random.Random(6)
        for store in STORES:
            kept = some_kept(source, store)
            self.assertEqual(View.of(store, kept).shown, shown_pairs(store, kept))


def renamed(store, old, new):
    """The store in which a change has another name."""
    def name(other):
        return new if other == old else other

    return Store(
        store.disk, tuple((name(other), writes) for other, writes in store.changes),
        tuple((name(later), name(earlier)) for later, earlier in store.ties))
