"""Points 5 and 7: stores that are made from stores."""

import itertools
import unittest

from heldparts.errors import NoStore, NoWrite, Ring
from heldparts.stores import Store
from tests.model import assert_store, is_lot, left_by, pairs_before
from tests.samples import ANY, BARE, BIG, CHAIN, DISK, EMPTY, NOTHING, ONE, X, Y, Z, random_parts

STORES = tuple(Store(*random_parts(seed)) for seed in range(60)) + (ONE, BARE, CHAIN, EMPTY, NOTHING)


def parts_of(store):
    """What a store must still be after a question."""
    return (store.disk, store.changes, store.ties, store.memory, store.cells, store.names, store.blocks, store.text,
            [store.row(cell) for cell in store.cells],
            [(store.ahead_of(name), store.behind(name)) for name in store.names])


class Moves(unittest.TestCase):

    def setUp(self):
        self.before = [parts_of(store) for store in STORES]

    def tearDown(self):
        self.assertEqual([parts_of(store) for store in STORES], self.before)

    def assert_word(self, word, call, *arguments):
        with self.assertRaises(NoStore) as caught:
            call(*arguments)
        self.assertEqual(caught.exception.word, word)
        self.assertNotIsInstance(caught.exception, Ring)


class TestWithChange(Moves):

    def test_it_stands_behind_the_rows_of_its_cells(self):
        store = ONE.with_change("c", ((X, 9),))
        assert_store(self, store, DISK, ONE.changes + (("c", ((X, 9),)),), ONE.ties + (("c", "b"),))
        self.assertEqual(store.row(X), ("a", "b", "c"))
        self.assertEqual(store.ahead_of("c"), ("a", "b", "k"))

    def test_it_stands_behind_what_is_named_and_all_before_it(self):
        store = CHAIN.with_change("f", (((4, 0), 3),), "c", "a", "c")
        self.assertEqual(store.ahead_of("f"), ("a", "b", "c", "e"))
        self.assertEqual(store.ties, CHAIN.ties + (("f", "c"), ("f", "e")))
        self.assertEqual(CHAIN.with_change("f", (((4, 0), 3),), "c"), store)

    def test_it_stands_behind_nothing_else(self):
        store = EMPTY.with_change(name="z", writes=((Y, 1),)).with_change("a", ((X, 1),))
        assert_store(self, store, DISK, (("z", ((Y, 1),)), ("a", ((X, 1),))), ())

    def test_many(self):
        for store in STORES:
            for cell in store.cells:
                writes = tuple((other, 7) for other in store.cells if other[0] == cell[0])
                for after in ((), store.names[:1], store.names[-2:] * 2, store.names[::-1]):
                    made = store.with_change("new", writes, *after)
                    ties = [("new", name) for name in store.names if name in after
                            or any(other in dict(writes) for other in dict(store.writes(name)))]
                    assert_store(
                        self, made, store.disk, store.changes + (("new", writes),), store.ties + tuple(ties))

    def test_errors(self):
        self.assert_word("cell", ONE.with_change, "c", ((Z, 1),))
        self.assert_word("cell", ONE.with_change, "c", ((X, 1), ((0, 1), 1)))
        self.assert_word("cell", NOTHING.with_change, "c", ((X, 1),))
        self.assert_word("name", ONE.with_change, "a", ((X, 1),))
        self.assert_word("name", ONE.with_change, "c", ((X, 1),), "z")
        self.assert_word("name", ONE.with_change, "c", ((X, 1),), "c")
        self.assert_word("name", ONE.with_change, "c", ((X, 1),), "a", "z", "b")
        self.assert_word("name", EMPTY.with_change, "c", ((X, 1),), "a")
        self.assert_word("cell", ONE.with_change, "a", ((Z, 1),), "z")
        self.assert_word("cell", ONE.with_change, "c", ((Z, 1),), "z")


class TestTied(Moves):

    def test_all_pairs(self):
        for store in STORES:
            for later, earlier in itertools.product(store.names, repeat=2):
                if later == earlier or later in store.ahead_of(earlier):
                    with self.assertRaises(Ring) as caught:
                        store.tied(later, earlier)
                    self.assertEqual(caught.exception.names, (later, earlier))
                    continue
                made = store.tied(later=later, earlier=earlier)
                assert_store(self, made, store.disk, store.changes, store.ties + ((later, earlier),))
                if earlier in store.ahead_of(later):
                    self.assertIs(made, store)

    def test_those_before_and_behind_move_too(self):
        store = CHAIN.with_change("f", (((4, 0), 3),)).tied("e", "b")
        self.assertEqual(store.ahead_of("f"), ("a", "b", "e"))
        self.assertEqual(store.behind("a"), ("b", "c", "d", "e", "f"))

    def test_the_change_itself(self):
        with self.assertRaises(Ring) as caught:
            ONE.tied("k", "k")
        self.assertEqual(caught.exception.names, ("k", "k"))


class TestSideBySide(Moves):

    def test_both_are_there(self):
        other = Store((((0, 5), 3), (Z, 4)), (("c", ((Z, 1),)), ("d", ((Z, 2),))), (("c", "d"),))
        store = ONE | other
        disk = ((X, 0), ((0, 5), 3), (Y, 0), (Z, 4))
        assert_store(self, store, disk, ONE.changes + other.changes, ONE.ties + other.ties)
        self.assertEqual(store, other | ONE)
        assert_store(self, other, other.disk, other.changes, other.ties)

    def test_nothing_beside_a_store(self):
        for store in STORES:
            self.assertEqual(store | NOTHING, store)
            self.assertEqual(NOTHING | store, store)

    def test_many(self):
        for at, store in enumerate(STORES):
            other = STORES[at - 1]
            far = Store(
                tuple(((block + 100, place), value) for (block, place), value in other.disk),
                tuple(("x" + name, tuple(((block + 100, place), value) for (block, place), value in writes))
                      for name, writes in other.changes),
                tuple(("x" + later, "x" + earlier) for later, earlier in other.ties))
            assert_store(self, store | far, store.disk + far.disk, store.changes + far.changes, store.ties + far.ties)

    def test_errors(self):
        cell, name = Store(((Y, 5),), (), ()), Store(((Z, 5),), (("b", ((Z, 1),)),), ())
        for store, other in ((ONE, cell), (cell, ONE), (ONE, ONE), (EMPTY, EMPTY), (ONE, BARE)):
            self.assert_word("cell", lambda: store | other)
        self.assert_word("name", lambda: ONE | name)
        self.assert_word("name", lambda: name | ONE)
        both = Store(((Y, 5), (Z, 5)), (("b", ((Z, 1),)),), ())
        self.assert_word("cell", lambda: ONE | both)

    def test_a_store_stands_beside_stores_only(self):
        for thing in ANY:
            if not isinstance(thing, Store):
                self.assertRaises(TypeError, lambda: ONE | thing)


class TestWritten(Moves):

    def test_one_after_another(self):
        store = CHAIN.written("a")
        assert_store(
            self, store, (((0, 0), 1), ((0, 1), 8), ((0, 2), 9), ((4, 0), -1)), CHAIN.changes[1:],
            (("c", "b"), ("d", "c")))
        self.assertEqual(store.written("b"), CHAIN.written("b", "a"))
        self.assertEqual(store.written("b", "c", "d").disk, CHAIN.written("a", "b", "c", "d").disk)
        self.assertEqual(CHAIN.written("a", "d", "b", "c").disk, (((0, 0), 4), ((0, 1), 5), ((0, 2), 6), ((4, 0), -1)))
        self.assertEqual(CHAIN.written("e").written("a", "b", "c", "d"), Store.empty(CHAIN.memory))

    def test_names_may_be_repeated(self):
        self.assertEqual(ONE.written("k", "k", "k"), ONE.written("k"))
        self.assertEqual(CHAIN.written("b", "a", "b"), CHAIN.written("a", "b"))

    def test_all_choices(self):
        for store in STORES:
            pairs = pairs_before(store.names, store.ties)
            for many in range(min(len(store), 4) + 1):
                for names in itertools.combinations(store.names[::-1], many):
                    blocks = {store.writes(name)[0][0][0] for name in names}
                    if len(blocks) != 1 or not is_lot(names, pairs):
                        with self.assertRaises(NoWrite) as caught:
                            store.written(*names)
                        self.assertEqual(caught.exception.names, names)
                        continue
                    rest = tuple(change for change in store.changes if change[0] not in names)
                    ties = tuple(
                        (later, earlier) for earlier, later in pairs if not {earlier, later} & set(names))
                    disk = left_by(names, store.disk, store.changes, pairs)
                    assert_store(self, store.written(*names), disk, rest, ties)

    def test_errors(self):
        for store, names in (
                (ONE, ()), (EMPTY, ()), (NOTHING, ()), (ONE, ("z",)), (ONE, ("a", "z")), (ONE, ("z", "a", "a")),
                (EMPTY, ("a",)), (ONE, ("b",)), (ONE, ("a", "b")), (ONE, ("a", "k")), (ONE, ("k", "a", "k")),
                (ONE, ("a", "b", "k")), (CHAIN, ("b", "c")), (CHAIN, ("a", "c")), (CHAIN, ("a", "e"))):
            with self.subTest(names=names):
                with self.assertRaises(NoWrite) as caught:
                    store.written(*names)
                self.assertEqual(caught.exception.names, names)

    def test_any_value_that_is_no_name(self):
        for thing in ANY:
            if thing not in ("a", "b", "k"):
                with self.assertRaises(NoWrite) as caught:
                    ONE.written("a", thing)
                self.assertIs(caught.exception.names[1], thing)

    def test_a_failure_leaves_the_content_of_a_lot(self):
        for store in STORES[:20]:
            pairs = pairs_before(store.names, store.ties)
            for many in range(len(store) + 1):
                for lot in itertools.combinations(store.names, many):
                    if not is_lot(lot, pairs):
                        continue
                    left = store
                    for name in sorted(lot, key=lambda name: len(store.ahead_of(name))):
                        left = left.written(name)
                    self.assertEqual(left.disk, left_by(lot, store.disk, store.changes, pairs))
                    self.assertEqual(left.memory, store.memory)

    def test_big_integers(self):
        store = Store((((BIG, 0), 0),), (("a", (((BIG, 0), -BIG),)),), ())
        self.assertEqual(store.written("a"), Store.empty((((BIG, 0), -BIG),)))


del Moves
