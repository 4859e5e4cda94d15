"""Points 4, 8 and 9: contexts, when they suit a store and kept names, and stores in a context."""

import copy
import random
import unittest

from heldparts.contexts import Context
from heldparts.errors import NoContext, Ring
from heldparts.forms import is_content
from heldparts.stores import Store
from tests.edit_samples import random_context, random_edit
from tests.lot_model import around as model_around
from tests.lot_model import suits as model_suits
from tests.model import pairs_before
from tests.samples import ANY, BARE, CHAIN, DISK, NOTHING, ONE, X, Y, Z

W = (2, 1)
GOOD = (
    (((Z, 0), (W, 5)), (("c", ((Z, 1),)), ("d", ((Z, 2), (W, 3))), ("e", ((X, 4),))), (("d", "c"), ("k", "c"))))
NOT_DISKS = ([], [(Z, 0)], {}, None, 0, "", (Z,), (Z, 0), ((Z, True),), ((Z, 0), (Z, 0)), ((W, 0), (Z, 0)),
             (((True, 0), 0),), (((0, -1), 0),), ([Z, 0],))
NOT_CHANGES = (
    [], {}, None, "c", ("c",), ("c", ((X, 1),)), (("c", ()),), (["c", ((X, 1),)],), (("c", ((X, 1),), ()),),
    (("c", ((X, 1), (Y, 1))),), (("d", ((X, 1),)), ("c", ((X, 1),))), (("c", ((X, 1),)), ("c", ((X, 1),))),
    (("c", ((X, 1),)), ("c", ((X, 2),))), (("C", ((X, 1),)),), (("", ((X, 1),)),), (("c", ((X, 1),)), None),
    (("abcdefghi", ((X, 1),)),), (("b", ((X, 1),)), ("aa", ((X, 1),))))
NOT_TIES = (
    [], {}, None, "cd", ("c", "d"), (["c", "d"],), (("c",),), (("c", "d", "e"),), (("c", "d"), ("c", "d")),
    (("d", "c"), ("c", "d")), (("c", 1),), ((None, "c"),), (("c", ""),), (("c", "D"),), (("c", "d"), None),
    (("c", ("d",)),), (("c", "e"), ("c", "d")))


def samples(count=600):
    """Stores with kept names and the parts of a context."""
    for seed in range(count):
        source = random.Random(seed)
        edit = random_edit(seed)
        yield edit.before, edit.kept, random_context(source, edit, 4)


class TestContext(unittest.TestCase):

    def assert_word(self, word, *arguments, **named):
        with self.assertRaises(NoContext) as caught:
            Context(*arguments, **named)
        self.assertEqual(caught.exception.word, word)

    def test_attributes(self):
        context = Context(*GOOD)
        self.assertEqual((context.disk, context.changes, context.ties), GOOD)
        self.assertEqual(context.parts, GOOD)
        self.assertEqual(len(context), 3)
        for name in ("disk", "changes", "ties", "parts"):
            self.assertIn(name, vars(context))

    def test_by_name_and_default(self):
        self.assertEqual(Context(ties=GOOD[2], changes=GOOD[1], disk=GOOD[0]).parts, GOOD)
        self.assertEqual(Context().parts, ((), (), ()))
        self.assertEqual(Context(GOOD[0]).parts, (GOOD[0], (), ()))
        self.assertEqual(Context((), (), (("zz", "a"),)).parts, ((), (), (("zz", "a"),)))

    def test_nothing(self):
        self.assertEqual(Context.nothing().parts, ((), (), ()))
        self.assertIs(Context.nothing() == Context(), True)
        self.assertEqual(len(Context.nothing()), 0)
        self.assertIs(Context.nothing().suits(NOTHING, ()), True)
        for store in (ONE, BARE, CHAIN, NOTHING):
            self.assertIs(Context.nothing().suits(store, store.names), True)
            self.assertEqual(Context.nothing().around(store, store.names), store)

    def test_equality(self):
        self.assertIs(Context(*GOOD) == Context(*copy.deepcopy(GOOD)), True)
        self.assertIs(Context(*GOOD) != Context(*GOOD), False)
        for other in (Context(), Context(GOOD[0], GOOD[1]), Context((), *GOOD[1:]), Context(GOOD[0], GOOD[1][:2], GOOD[2])):
            self.assertIs(Context(*GOOD) == other, False)
            self.assertIs(Context(*GOOD) != other, True)
        for other in (GOOD, None, ONE, 3):
            self.assertIs(Context(*GOOD) == other, False)

    def test_the_words_in_their_order(self):
        for disk in NOT_DISKS:
            self.assert_word("disk", disk)
            self.assert_word("disk", disk, NOT_CHANGES[3], NOT_TIES[3])
            self.assert_word("disk", disk, GOOD[1], GOOD[2])
        for changes in NOT_CHANGES:
            self.assert_word("changes", (), changes)
            self.assert_word("changes", GOOD[0], changes, GOOD[2])
            self.assert_word("changes", GOOD[0], changes, NOT_TIES[4])
        for ties in NOT_TIES:
            self.assert_word("ties", (), (), ties)
            self.assert_word("ties", GOOD[0], GOOD[1], ties)
            self.assert_word("ties", ties=ties)

    def test_any_values(self):
        for thing in ANY:
            if is_content(thing):
                self.assertIs(Context(thing).disk, thing)
            else:
                self.assert_word("disk", thing)
            if repr(thing) != "()":
                self.assert_word("changes", (), thing)
                self.assert_word("ties", (), (), thing)

    def test_long_ones(self):
        names = sorted("n" + chr(97 + at // 676) + chr(97 + at // 26 % 26) + chr(97 + at % 26) for at in range(1000))
        changes = tuple((name, (((9, 9), 1),)) for name in names)
        ties = tuple(sorted(zip(names[1:], names)))
        self.assertEqual(len(Context((((9, 9), 0),), changes, ties)), 1000)
        self.assertIs(Context((((9, 9), 0),), changes, ties).suits(ONE, ("k",)), True)
        self.assertIs(Context((((9, 9), 0),), changes, ties[1:]).suits(ONE, ("k",)), False)
        self.assertIs(Context((((9, 9), 0),), changes, tuple(sorted(ties + ((names[0], names[-1]),)))).suits(ONE, ()), True)
        self.assert_word("changes", (), changes[:500] + changes[499:], ties)
        self.assert_word("ties", (), changes, ties[:500] + ties[499:])


class TestSuits(unittest.TestCase):

    def assert_suits(self, expected, parts, store=ONE, kept=("k",)):
        self.assertIs(Context(*parts).suits(store, kept), expected)
        self.assertIs(model_suits(parts, store, kept), expected)
        self.assertIs(Context(*parts).suits(kept=kept, store=store), expected)
        if not expected:
            with self.assertRaises(NoContext) as caught:
                Context(*parts).around(store, kept)
            self.assertEqual(caught.exception.word, "suits")

    def test_against_the_model(self):
        told = {True: 0, False: 0}
        for store, kept, parts in samples():
            for names in (kept, store.names, ()):
                expected = model_suits(parts, store, names)
                told[expected] += 1
                self.assert_suits(expected, parts, store, names)
        self.assertGreater(min(told.values()), 50)

    def test_a_right_one(self):
        self.assert_suits(True, GOOD)
        self.assert_suits(True, GOOD, BARE)

    def test_cells_and_names_of_the_store(self):
        self.assert_suits(False, (((X, 0),), (), ()))
        self.assert_suits(False, (((Y, 0), (Z, 0)), (), ()))
        self.assert_suits(True, (((Z, 0),), (), ()))
        self.assert_suits(False, ((), (("a", ((X, 0),)),), ()))
        self.assert_suits(False, ((), (("k", ((Y, 0),)),), ()))
        self.assert_suits(True, ((), (("a", ((X, 0),)),), ()), BARE)

    def test_cells_that_nobody_has(self):
        self.assert_suits(False, ((), (("c", ((Z, 0),)),), ()))
        self.assert_suits(False, (((Z, 0),), (("c", ((Z, 0), (W, 0))),), ()))
        self.assert_suits(True, (((Z, 0), (W, 0)), (("c", ((Z, 0), (W, 0))),), ()))
        self.assert_suits(True, ((((0, 3), 0),), (("c", ((X, 0), ((0, 3), 0))),), ()))

    def test_ties(self):
        two = (("c", ((X, 0),)), ("d", ((Y, 0),)))
        for ties, expected in (
                ((("c", "k"),), True), ((("k", "c"),), True), ((("c", "d"),), True), ((("c", "d"), ("d", "c")), True),
                ((("c", "k"), ("k", "c")), True), ((("c", "c"),), False), ((("k", "k"),), False), ((("c", "a"),), False),
                ((("b", "c"),), False), ((("a", "k"),), False), ((("a", "b"),), False), ((("c", "zz"),), False),
                ((("zz", "zzz"),), False), ((("c", "d"), ("c", "zz")), False)):
            self.assert_suits(expected, ((), two, ties))
        self.assert_suits(False, ((), two, (("c", "k"),)), ONE, ())
        self.assert_suits(True, ((), two, (("a", "c"), ("c", "b"))), ONE, ("a", "b"))
        self.assert_suits(False, ((), two, (("a", "b"),)), ONE, ("a", "b"))

    def test_rows_by_the_ties_of_added_changes_alone(self):
        three = (("c", ((X, 0),)), ("d", ((Y, 0),)), ("e", ((X, 1),)))
        for ties, expected in (
                ((), False), ((("c", "e"),), True), ((("e", "c"),), True), ((("d", "c"), ("e", "d")), True),
                ((("c", "d"), ("e", "d")), False), ((("e", "k"), ("k", "c")), False), ((("d", "c"),), False),
                ((("c", "e"), ("e", "c")), True), ((("c", "d"), ("d", "c"), ("e", "d")), True),
                ((("d", "c"), ("d", "e"), ("e", "d")), True), ((("c", "d"), ("d", "c"), ("d", "e")), True),
                ((("c", "d"), ("d", "c")), False)):
            self.assert_suits(expected, ((), three, ties))
        four = (("c", ((X, 0),)), ("d", ((Y, 0),)), ("e", (((4, 0), 0),)), ("f", ((X, 1),)))
        ring = (("e", "f"), ("f", "e"))
        for ties, expected in (
                ((("d", "c"), ("e", "d")) + ring, True), ((("c", "d"), ("d", "e")) + ring, True),
                ((("d", "c"), ("d", "e")) + ring, False), ((("d", "c"),) + ring, False),
                ((("c", "d"), ("d", "c")) + ring, False)):
            self.assert_suits(expected, ((((4, 0), 0),), four, tuple(sorted(ties))))

    def test_kept_that_is_none(self):
        for kept in (("k", "a"), ("a", "a"), ("k", "k"), ("zz",), ("a", "zz"), ("c",), ("abcdefghijk",), ("",)):
            self.assertIs(Context().suits(ONE, kept), False)
            with self.assertRaises(NoContext) as caught:
                Context().around(ONE, kept)
            self.assertEqual(caught.exception.word, "suits")

    def test_several_faults_at_once(self):
        self.assert_suits(False, (((X, 0),), (("a", ((Z, 0),)), ("c", ((Z, 1),))), (("a", "a"), ("q", "r"))), ONE, ("k", "a"))


class TestAround(unittest.TestCase):

    def test_against_the_store_made_from_its_parts(self):
        rings = 0
        for store, kept, parts in samples():
            if not model_suits(parts, store, kept):
                continue
            model = model_around(parts, store)
            if model is None:
                rings += 1
                self.assert_ring(store, kept, parts)
                continue
            expected = Store(model.disk, store.changes + parts[1], tuple((later, earlier) for earlier, later in model.pairs))
            made = Context(*parts).around(store, kept)
            self.assertEqual(made, expected)
            self.assertEqual(made.cells, tuple(sorted(made.cells)))
            self.assertEqual({cell: made.row(cell) for cell in made.cells}, model.rows)
            self.assertEqual(Context(*parts).around(kept=kept, store=store), expected)
        self.assertGreater(rings, 20)

    def assert_ring(self, store, kept, parts):
        with self.assertRaises(Ring) as caught:
            Context(*parts).around(store, kept)
        names = caught.exception.names
        self.assertIsInstance(names, tuple)
        self.assertGreater(len(names), 0)
        self.assertEqual(len(set(names)), len(names))
        rows = [(name, other) for name, writes in parts[1] for cell, _ in writes if cell in store.cells
                for other in store.row(cell)]
        everything = store.names + tuple(name for name, _ in parts[1])
        order = pairs_before(everything, store.ties + parts[2] + tuple(rows))
        for at, name in enumerate(names):
            self.assertIn((names[(at + 1) % len(names)], name), order)

    def test_rings(self):
        writes = (("c", ((X, 5),)),)
        for store, kept, ties in (
                (ONE, ("b",), (("b", "c"),)), (ONE, ("k",), (("k", "c"),)), (ONE, ("a",), (("a", "c"),)),
                (ONE, ("a", "k"), (("a", "c"), ("c", "k")))):
            self.assertIs(Context((), writes, ties).suits(store, kept), True)
            self.assert_ring(store, kept, ((), writes, ties))
        pair = (("c", ((X, 5),)), ("d", ((Y, 5),)))
        self.assert_ring(ONE, (), ((), pair, (("c", "d"), ("d", "c"))))

    def test_added_changes_stand_behind_the_rows(self):
        store = Context((), (("c", ((X, 5),)),)).around(ONE, ())
        self.assertEqual(store.row(X), ("a", "b", "c"))
        self.assertEqual(store.ahead_of("c"), ("a", "b", "k"))
        self.assertEqual(store.disk, DISK)
        store = Context((((0, 5), 3),), (("c", ((X, 5), ((0, 5), 1))), ("d", ((X, 6),))), (("d", "c"),)).around(BARE, ())
        self.assertEqual(store.row(X), ("c", "d"))
        self.assertEqual(store.disk, ((X, 0), ((0, 5), 3), (Y, 0)))
        self.assertEqual(store.ties, (("d", "c"),))

    def test_the_example(self):
        late = Context((), (("c", ((X, 5),)),), (("k", "c"),))
        self.assertEqual([late.suits(ONE, ("k",)), late.suits(ONE, ()), late.around(BARE, ("k",)).ties],
                         [True, False, (("k", "c"),)])

    def test_nothing_changes(self):
        for store, kept, parts in samples(60):
            context, before = Context(*parts), copy.deepcopy((store.text, kept, parts))
            context.suits(store, kept)
            try:
                context.around(store, kept)
            except (NoContext, Ring):
                pass
            self.assertEqual((store.text, kept, context.parts), before)
