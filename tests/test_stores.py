"""Points 5 and 6: making stores, their attributes, and questions to them."""

import itertools
import unittest

from heldparts.errors import NoStore, Ring
from heldparts.stores import Store
from tests.model import assert_store, pairs_before, store_error
from tests.samples import ANY, BARE, BIG, CHAIN, DISK, EMPTY, NOTHING, ONE, X, Y, Z, random_parts

A, B, K = ("a", ((X, 1),)), ("b", ((X, 0),)), ("k", ((Y, 1),))


class TestMaking(unittest.TestCase):

    def test_the_examples(self):
        self.assertEqual(
            [ONE.row(X), ONE.ties, ONE.memory, ONE.ahead_of("b"), ONE.written("a").disk, len(ONE.written("k", "k"))],
            [("a", "b"), (("b", "a"), ("b", "k")), (((0, 0), 0), ((1, 0), 1)), ("a", "k"),
             (((0, 0), 1), ((1, 0), 0)), 2])
        made = Store.empty(DISK).with_change("a", ((X, 1),)).with_change("k", ((Y, 1),))
        self.assertEqual(made.with_change("b", ((X, 0),), "k") == ONE, True)
        self.assertEqual(BARE.text, "cell 0.0 0\ncell 1.0 0\nchange k 1.0=1")
        with self.assertRaises(Ring) as caught:
            ONE.tied("a", "b")
        self.assertEqual(caught.exception.names, ("a", "b"))

    def test_each_part_can_come_in_any_order(self):
        ties = (("b", "a"), ("b", "k"), ("b", "a"))
        for changes in itertools.permutations((A, B, K)):
            for row in itertools.permutations(ties):
                assert_store(self, Store(DISK, changes, row), DISK, ONE.changes, ONE.ties)
                self.assertEqual(Store(disk=DISK, changes=changes, ties=row), ONE)

    def test_ties_that_follow_may_be_told_or_not(self):
        names = ("a", "b", "c", "d", "e")
        alone = tuple(zip(names[1:], names))
        following = tuple((later, earlier) for earlier, later in pairs_before(names, alone))
        changes = tuple((name, ((X, at),)) for at, name in enumerate(names))
        expected = Store(DISK, changes, alone)
        self.assertEqual(len(following), 10)
        for ties in (following, following[::-1], following + alone, alone[::-1], alone * 3):
            assert_store(self, Store(DISK, changes, ties), DISK, changes, alone)
            self.assertEqual(Store(DISK, changes, ties), expected)

    def test_many_stores(self):
        for seed in range(400):
            disk, changes, ties = random_parts(seed)
            with self.subTest(seed=seed):
                self.assertIsNone(store_error(disk, changes, ties))
                assert_store(self, Store(disk, changes, ties), disk, changes, ties)

    def test_all_small_orders(self):
        cells = [(at, 0) for at in range(4)]
        disk = tuple((cell, 0) for cell in cells)
        names = ("a", "b", "c", "d")
        changes = tuple((name, ((cell, 1),)) for name, cell in zip(names, cells))
        pairs = list(itertools.combinations(("b", "d", "a", "c"), 2))
        for many in range(len(pairs) + 1):
            for ties in itertools.combinations(pairs, many):
                assert_store(self, Store(disk, changes, ties), disk, changes, ties)

    def test_stores_of_nothing(self):
        assert_store(self, NOTHING, (), (), ())
        assert_store(self, EMPTY, DISK, (), ())
        self.assertEqual(EMPTY.memory, DISK)
        self.assertEqual((EMPTY.row(X), EMPTY.names, EMPTY.blocks, len(EMPTY)), ((), (), (), 0))
        self.assertEqual((NOTHING.text, NOTHING.memory), ("", ()))

    def test_empty(self):
        for disk in ((), DISK, CHAIN.disk, (((BIG, BIG), -BIG),)):
            self.assertEqual(Store.empty(disk), Store(disk, (), ()))
            self.assertEqual(Store.empty(disk=disk).disk, disk)

    def test_most(self):
        self.assertEqual(Store.MOST, 12)
        self.assertEqual(ONE.MOST, 12)

    def test_more_changes_than_most(self):
        names = [first + second for first in "abcdef" for second in "pqrst"]
        changes = tuple((name, ((X, at),)) for at, name in enumerate(names))
        ties = tuple(zip(names[1:], names))
        store = Store(DISK, changes[::-1], ties[::-1])
        self.assertEqual(len(store), 30)
        self.assertEqual(store.row(X), tuple(names))
        self.assertEqual(store.ahead_of("ft"), tuple(names[:-1]))
        self.assertEqual(store.memory, ((X, 29), (Y, 0)))

    def test_blocks_are_those_of_changes(self):
        self.assertEqual(CHAIN.blocks, (0, 4))
        self.assertEqual(BARE.blocks, (1,))


class TestErrorsOfMaking(unittest.TestCase):

    def assert_word(self, word, *parts):
        with self.assertRaises(NoStore) as caught:
            Store(*parts)
        self.assertEqual(caught.exception.word, word)
        self.assertEqual(isinstance(caught.exception, Ring), word == "ring")
        return caught.exception

    def test_a_cell_that_is_not_on_the_disk(self):
        for changes in ((("a", ((Z, 1),)),), (A, ("b", ((X, 0), ((0, 1), 0)))), (("a", (((0, 1), 0),)), K)):
            self.assert_word("cell", DISK, changes, ())
        self.assert_word("cell", (), (A,), ())

    def test_names(self):
        self.assert_word("name", DISK, (A, A), ())
        self.assert_word("name", DISK, (A, K, ("a", ((Y, 1),))), (("a", "k"),))
        for ties in ((("a", "z"),), (("z", "a"),), (("z", "z"),), (("a", "k"), ("k", "aa"))):
            self.assert_word("name", DISK, (A, K), ties)
        self.assert_word("name", (), (), (("a", "b"),))

    def test_rings(self):
        free = tuple((name, (((at, 0), 1),)) for at, name in enumerate("abcdef"))
        disk = tuple(((at, 0), 0) for at in range(6))
        for ties in (
                (("a", "a"),), (("a", "b"), ("b", "a")), (("a", "b"), ("b", "c"), ("c", "a")),
                (("a", "b"), ("b", "c"), ("c", "b"), ("d", "a")), (("f", "f"), ("a", "f"), ("b", "a")),
                (("b", "a"), ("c", "b"), ("d", "c"), ("c", "e"), ("e", "d"), ("f", "e")),
                tuple(zip("abcdef", "fabcde")), tuple(zip("abcdef", "bcdefa")),
                (("a", "b"), ("b", "a"), ("c", "d"), ("d", "c"))):
            for row in (ties, ties[::-1], ties + ties):
                names = self.assert_word("ring", disk, free, row).names
                self.assertIsInstance(names, tuple)
                self.assertEqual(len(set(names)), len(names))
                self.assertGreater(len(names), 0)
                for later, earlier in zip(names, names[1:] + names[:1]):
                    self.assertIn((later, earlier), ties)

    def test_a_long_ring(self):
        names = [first + second for first in "abcdefghij" for second in "abcdefghij"]
        changes = tuple((name, ((X, 0),)) for name in names)
        ties = tuple(zip(names, names[1:] + names[:1]))
        told = self.assert_word("ring", DISK, changes, ties).names
        self.assertEqual(sorted(told), names)

    def test_rows(self):
        self.assert_word("row", DISK, (A, B), ())
        self.assert_word("row", DISK, (A, B, K), (("a", "k"), ("b", "k")))
        self.assert_word("row", DISK, (A, B, K), (("k", "a"), ("k", "b")))
        self.assert_word("row", DISK, (A, B, ("c", ((X, 5),))), (("b", "a"), ("c", "a")))
        self.assert_word("row", DISK, (A, B, ("c", ((X, 5),))), (("c", "a"), ("c", "b")))
        disk = (((0, 0), 0), ((0, 1), 0))
        both = ("a", (((0, 0), 1), ((0, 1), 1)))
        self.assert_word("row", disk, (both, ("b", (((0, 1), 1),))), ())

    def test_a_row_may_be_tied_by_way_of_others(self):
        store = Store(DISK, (A, B, K), (("k", "a"), ("b", "k")))
        self.assertEqual(store.row(X), ("a", "b"))
        self.assertEqual(store.ties, (("b", "k"), ("k", "a")))

    def test_the_first_of_several(self):
        outside = ("c", ((Z, 1),))
        ring = (("b", "a"), ("a", "b"))
        self.assert_word("cell", DISK, (A, A, B, outside), ring + (("a", "z"),))
        self.assert_word("cell", DISK, (A, outside), (("a", "z"),))
        self.assert_word("cell", DISK, (A, B, outside), ring)
        self.assert_word("cell", DISK, (A, B, outside), ())
        self.assert_word("name", DISK, (A, A, B), ring)
        self.assert_word("name", DISK, (A, B), ring + (("a", "z"),))
        self.assert_word("name", DISK, (A, B), (("a", "z"),))
        self.assert_word("ring", DISK, (A, B, K), (("k", "k"),))
        self.assert_word("ring", DISK, (A, B, K, ("c", ((Y, 1),))), ring)

    def test_all_ties_of_three(self):
        ties = [(later, earlier) for later in "abk" for earlier in "abk"]
        for many in range(5):
            for row in itertools.combinations(ties, many):
                word = store_error(DISK, (A, B, K), row)
                if word is None:
                    assert_store(self, Store(DISK, (A, B, K), row), DISK, (A, B, K), row)
                else:
                    self.assert_word(word, DISK, (A, B, K), row)


class TestQuestions(unittest.TestCase):

    def test_in_of_any_value(self):
        for thing in ANY:
            told = isinstance(thing, str) and thing in ("a", "b", "k")
            self.assertIs(thing in ONE, told)
            self.assertIs(thing in NOTHING, False)
            self.assertIs(thing not in ONE, not told)

    def test_equal_to_no_other_value(self):
        for thing in ANY:
            if not isinstance(thing, Store):
                self.assertIs(ONE == thing, False)
                self.assertIs(thing == ONE, False)
                self.assertIs(ONE != thing, True)
                self.assertIs(NOTHING == thing, False)
        for thing in (ONE.text, (ONE.disk, ONE.changes, ONE.ties), [ONE], Store, ONE.changes):
            self.assertIs(ONE == thing, False)
            self.assertIs(ONE != thing, True)

    def test_equal_by_disk_changes_and_order(self):
        same = Store(DISK, (K, B, A), (("b", "k"), ("b", "a")))
        self.assertIs(ONE == same, True)
        self.assertIs(ONE != same, False)
        others = (
            Store((((0, 0), 1), (Y, 0)), ONE.changes, ONE.ties), Store(DISK + ((Z, 0),), ONE.changes, ONE.ties),
            Store(DISK, (A, ("b", ((X, 2),)), K), ONE.ties), Store(DISK, (A, B), (("b", "a"),)),
            Store(DISK, (A, B, ("c", ((Y, 1),))), (("b", "a"), ("b", "c"))), Store(DISK, (A, B, K), (("b", "a"),)),
            Store(DISK, (A, B, K), (("b", "a"), ("a", "k"))), Store(DISK, (A, B, K), (("a", "b"), ("b", "k"))),
            BARE, EMPTY, NOTHING)
        for other in others:
            self.assertIs(ONE == other, False)
            self.assertIs(other == ONE, False)
            self.assertIs(ONE != other, True)
        for first, second in itertools.combinations(others, 2):
            self.assertIs(first == second, False)

    def test_the_order_counts_not_the_ties(self):
        free = (("a", ((X, 1),)), ("b", ((Y, 1),)), ("c", ((Z, 1),)))
        disk = DISK + ((Z, 0),)
        self.assertEqual(
            Store(disk, free, (("b", "a"), ("c", "b"), ("c", "a"))), Store(disk, free, (("c", "b"), ("b", "a"))))
        self.assertNotEqual(
            Store(disk, free, (("b", "a"), ("c", "b"))), Store(disk, free, (("b", "a"), ("c", "a"))))

    def test_writes_and_row(self):
        self.assertEqual(ONE.writes("a"), ((X, 1),))
        self.assertEqual(ONE.writes(name="k"), ((Y, 1),))
        self.assertEqual(CHAIN.writes("d"), (((0, 0), 4), ((0, 1), 5), ((0, 2), 6)))
        self.assertEqual(CHAIN.row((0, 0)), ("a", "b", "c", "d"))
        self.assertEqual(CHAIN.row(cell=(0, 2)), ("d",))
        turned = Store(DISK, (A, B), (("a", "b"),))
        self.assertEqual(turned.row(X), ("b", "a"))
        self.assertEqual(turned.memory, ((X, 1), (Y, 0)))

    def test_ahead_and_behind(self):
        self.assertEqual(CHAIN.ahead_of("d"), ("a", "b", "c"))
        self.assertEqual(CHAIN.ahead_of(name="a"), ())
        self.assertEqual(CHAIN.behind("a"), ("b", "c", "d"))
        self.assertEqual(CHAIN.behind(name="d"), ())
        self.assertEqual((CHAIN.ahead_of("e"), CHAIN.behind("e")), ((), ()))
        turned = Store(DISK, (A, B, K), (("a", "b"), ("k", "a")))
        self.assertEqual((turned.ahead_of("k"), turned.behind("b")), (("a", "b"), ("a", "k")))

    def test_ghosts(self):
        disk = (((0, 0), 5), ((0, 1), 6))
        both = (("a", (((0, 0), 5), ((0, 1), 6))), ("b", (((0, 0), 5), ((0, 1), 7))), ("c", (((0, 1), 7),)),
                ("d", (((0, 0), 6), ((0, 1), 7))), ("e", (((0, 0), 5), ((0, 1), 7))))
        store = Store(disk, both, (("b", "a"), ("c", "b"), ("d", "c"), ("e", "d")))
        self.assertEqual([store.is_ghost(name) for name in "abcde"], [True, False, True, False, False])
        self.assertIs(store.is_ghost(name="a"), True)
        self.assertEqual([ONE.is_ghost(name) for name in "abk"], [False, False, False])

    def test_big_integers(self):
        disk = (((BIG, BIG), -BIG),)
        store = Store(disk, (("a", (((BIG, BIG), BIG),)),), ())
        assert_store(self, store, disk, store.changes, ())
