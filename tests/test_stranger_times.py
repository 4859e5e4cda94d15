"""Points 8, 9 and 14: a thousand calls for strangers and stores in a context come to an end in a short time."""

import time
import unittest

from heldparts.contexts import Context
from heldparts.edits import Edit
from heldparts.lots import lots
from heldparts.stores import Store
from heldparts.strangers import noticed_by, pruned, stranger_holds
from tests.lot_model import around, is_stranger, noticed

X, Y, Z, W = (0, 0), (0, 1), (1, 0), (2, 0)
DISK = ((X, 0), (Y, 3), (Z, 0), (W, 5))
CHANGES = (("a", ((X, 1),)), ("b", ((Y, 2),)), ("c", ((X, 2), (Y, 2))), ("k", ((Z, 1),)), ("m", ((W, 6),)))
TIES = (("c", "a"), ("c", "b"), ("k", "b"))
PARTS = ((((9, 0), 0), ((9, 1), 0)), (("p", ((X, 7),)), ("q", (((9, 0), 1),)), ("r", (((9, 1), 4),))),
         (("k", "q"), ("q", "p"), ("r", "k")))
AFTER = Store(DISK, CHANGES, TIES)
BEFORE = Store(DISK, CHANGES, TIES + (("m", "a"),))
EDIT = Edit(BEFORE, AFTER, ("k",))
BIG = 10 ** 39


def wide_parts():
    """Twelve changes of twelve cells each, with values of forty digits, tied in a row."""
    cells = tuple((0, at) for at in range(12))
    changes = tuple((chr(97 + at), tuple((cell, BIG + at * 12 + cell[1]) for cell in cells)) for at in range(12))
    return tuple((cell, 0) for cell in cells), changes, tuple((chr(98 + at), chr(97 + at)) for at in range(11))


class TestTimes(unittest.TestCase):

    def assert_soon(self, call, times=1000, seconds=20):
        """That a thousand calls come to an end; on an ordinary machine they take less than a tenth of a second."""
        start = time.perf_counter()
        for _ in range(times):
            call()
        self.assertLess(time.perf_counter() - start, seconds)

    def test_answers(self):
        store = Context(*PARTS).around(AFTER, ("k",))
        answers = [stranger_holds(EDIT, ("lot", PARTS, lot)) for lot in lots(store)]
        self.assertEqual(answers, [is_stranger(EDIT, ("lot", PARTS, lot)) for lot in lots(store)])
        self.assertEqual(answers.count(True), 2)
        self.assertEqual(noticed_by(EDIT, Context(*PARTS)), noticed(EDIT, PARTS))
        self.assertEqual(list(lots(store)), around(PARTS, AFTER).lots())
        self.assertIs(stranger_holds(EDIT, ("ring", PARTS)), False)
        ring = (PARTS[0], PARTS[1], PARTS[2] + (("r", "q"),))
        self.assertIs(stranger_holds(EDIT, ("ring", ring)), False)
        self.assertEqual(pruned(EDIT, ("lot", PARTS, ("m",))), ("lot", ((), (), ()), ("m",)))

    def test_strangers(self):
        store = Context(*PARTS).around(AFTER, ("k",))
        for lot in list(lots(store))[::5]:
            self.assert_soon(lambda: stranger_holds(EDIT, ("lot", PARTS, lot)))
        self.assert_soon(lambda: stranger_holds(EDIT, ("ring", PARTS)))
        self.assert_soon(lambda: pruned(EDIT, ("lot", PARTS, ("m",))))

    def test_noticed_by(self):
        self.assert_soon(lambda: noticed_by(EDIT, Context(*PARTS)))

    def test_stores(self):
        self.assert_soon(lambda: Context(*PARTS).around(AFTER, ("k",)))
        self.assert_soon(lambda: Store(DISK, CHANGES, TIES))
        disk, changes, ties = wide_parts()
        self.assert_soon(lambda: Store(disk, changes, ties))

    def test_different_values(self):
        def one(value):
            store = Store(DISK, CHANGES[:4] + (("m", ((W, value),)),), TIES)
            other = Store(DISK, store.changes, TIES + (("m", "a"),))
            edit = Edit(other, store, ("k",))
            parts = (PARTS[0], (("p", ((X, value),)),) + PARTS[1][1:], PARTS[2])
            return stranger_holds(edit, ("lot", parts, ("m",))), noticed_by(edit, Context(*parts))

        start = time.perf_counter()
        for value in range(10, 1010):
            self.assertEqual(one(value), (True, ("lot", ("m",))))
        self.assertLess(time.perf_counter() - start, 20)
