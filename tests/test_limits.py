"""Stores and contexts at the limits, in a time that leaves room for a slow machine."""

import time
import unittest

from heldparts.contexts import Context
from heldparts.edits import Edit
from heldparts.errors import Ring, TooMany
from heldparts.fitting import fitting, refusal_holds
from heldparts.lots import closure, content, done_cells, is_lot, lots
from heldparts.stores import Store
from heldparts.strangers import noticed_by, pruned, stranger_holds
from heldparts.tables import combined, lifted, table_holds
from heldparts.views import View, are_alike

DISK = tuple(((at, 0), 0) for at in range(12))
NAMES = tuple("m" + chr(97 + at) for at in range(12))
ADDED = tuple("n" + chr(97 + at) for at in range(12))
FREE = Store(DISK, tuple((name, (((at, 0), 1),)) for at, name in enumerate(NAMES)), ())
ROW = Store(DISK, FREE.changes, tuple(zip(NAMES[1:], NAMES)))
# Six pairs: 3 ** 6 lots.
PAIRS = Store(DISK, FREE.changes, tuple(zip(NAMES[1::2], NAMES[::2])))
# Two thousand lots or a little less.
MOST = Store(DISK, FREE.changes, (("mb", "ma"), ("md", "mc"), ("mf", "me")))
# Twelve changes in a row of one cell, each of which writes all twelve cells of a block.
WIDE_DISK = tuple(((0, at), 0) for at in range(12))
WIDE = Store(
    WIDE_DISK, tuple((name, tuple((cell, at) for cell, _ in WIDE_DISK)) for at, name in enumerate(NAMES)),
    tuple(zip(NAMES[1:], NAMES)))
FAR = tuple(((at, 7), 0) for at in range(12))
BESIDE = Context(FAR, tuple((name, (((at, 7), 1),)) for at, name in enumerate(ADDED)), tuple(zip(ADDED[1:], ADDED)))
OVER = Context((), tuple((name, (((at, 0), 2),)) for at, name in enumerate(ADDED)), ())
WIDE_OVER = Context(
    (), tuple((name, tuple((cell, 20 + at) for cell, _ in WIDE_DISK)) for at, name in enumerate(ADDED)),
    tuple(zip(ADDED[1:], ADDED)))


class TestLimits(unittest.TestCase):

    def setUp(self):
        self.start = time.perf_counter()

    def tearDown(self):
        # Each takes well under a second on an ordinary machine.
        self.assertLess(time.perf_counter() - self.start, 20)

    def test_all_lots(self):
        found = list(lots(FREE))
        self.assertEqual(len(found), 4096)
        self.assertEqual(found, sorted(set(found), key=lambda lot: (len(lot), lot)))
        self.assertEqual(len(list(lots(PAIRS))), 729)
        for lot in found:
            self.assertIs(is_lot(FREE, lot), True)
            self.assertEqual([value for _, value in content(FREE, lot)], [int(name in lot) for name in NAMES])
            self.assertEqual(len(done_cells(FREE, lot)), len(lot))

    def test_stores_in_a_context(self):
        around = OVER.around(FREE, ())
        self.assertEqual(len(around), 24)
        self.assertEqual(around.row((3, 0)), ("md", "nd"))
        row = WIDE_OVER.around(WIDE, ())
        self.assertEqual([len(lot) for lot in lots(row)], list(range(25)))
        self.assertEqual(closure(row, ("na",)), NAMES + ("na",))
        self.assertEqual(fitting(row, (((0, 3), 25),))[1], NAMES + ADDED[:6])
        seen = tuple((cell, 5 + at) for at, (cell, _) in enumerate(WIDE_DISK[:2]))
        told = fitting(row, seen)
        self.assertEqual(told[0], "none")
        self.assertIs(refusal_holds(row, told[1], seen), True)
        for _ in range(100):
            self.assertEqual(fitting(around, around.memory, has=ADDED)[0], "lots")
        late = Context((), OVER.changes, tuple((name, "na") for name in NAMES))
        self.assertRaises(Ring, late.around, ROW, NAMES)

    def test_tables(self):
        for kept in ((), NAMES[::2], NAMES):
            edit = Edit(MOST, MOST, kept)
            table = edit.examine(limit=2000)[1]
            self.assertEqual(len(table), 1728)
            self.assertIs(table_holds(edit, table), True)
            self.assertIs(table_holds(edit, table[:-1]), False)
            self.assertIs(table_holds(edit, table[:-1] + ((NAMES, NAMES[:-1]),)), False)
            self.assertEqual(combined(table, table), table)
        whole = tuple((lot, lot) for lot in lots(FREE))
        self.assertIs(table_holds(Edit(FREE, FREE, NAMES), whole), True)
        edit = Edit(WIDE, WIDE, NAMES)
        self.assertEqual(len(lifted(edit, WIDE_OVER, edit.examine()[1])), 25)
        edit = Edit(PAIRS, PAIRS, NAMES)
        self.assertEqual(len(lifted(edit, BESIDE, edit.examine(limit=1000)[1])), 729 * 13)

    def test_too_many(self):
        for limit in (0, 500, 2000):
            for call in (lambda: Edit(ROW, FREE).examine(limit=limit), lambda: View.of(FREE, NAMES, limit=limit),
                         lambda: noticed_by(Edit(FREE, FREE, NAMES), OVER, limit=limit),
                         lambda: are_alike(ROW, FREE, (), limit=limit)):
                with self.assertRaises(TooMany) as caught:
                    call()
                self.assertEqual(caught.exception.limit, limit)

    def test_strangers(self):
        for before, after, kept in ((ROW, PAIRS, ()), (ROW, PAIRS, NAMES), (PAIRS, MOST, NAMES), (MOST, PAIRS, NAMES[:4])):
            edit = Edit(before, after, kept)
            told = edit.examine(limit=2000)
            self.assertEqual(told[0] != "table", stranger_holds(edit, told))
            if told[0] == "lot":
                self.assertIs(stranger_holds(edit, pruned(edit, told)), True)
                self.assertLessEqual(len(told[1][1]), len(kept) + 12)
        edit = Edit(ROW, FREE)
        lot = ("mb",) + ADDED
        self.assertIs(stranger_holds(edit, ("lot", BESIDE.parts, lot)), True)
        self.assertEqual(pruned(edit, ("lot", BESIDE.parts, lot)), ("lot", ((), (), ()), ("mb",)))

    def test_noticed_by(self):
        self.assertIsNone(noticed_by(Edit(WIDE, WIDE, NAMES), WIDE_OVER))
        self.assertEqual(noticed_by(Edit(ROW, PAIRS), Context.nothing(), limit=1000), ("lot", ("mc",)))
        edit = Edit(ROW, ROW, NAMES)
        self.assertIsNone(noticed_by(edit, BESIDE, limit=2000))
        self.assertEqual(len(edit.within(BESIDE).examine()[1]), 169)

    def test_views(self):
        view = View.of(MOST, NAMES, limit=2000)
        self.assertEqual(len(view), 1728)
        self.assertEqual(view.released(*NAMES), View.of(MOST, (), limit=2000))
        self.assertEqual(len(view.tied("mh", "mg").text.split("\n")), 1296)
        added = view.added("z", (((0, 0), 5),), "ml")
        self.assertEqual(added, View.of(MOST.with_change("z", (((0, 0), 5),), "ml"), NAMES + ("z",), limit=5000))
        self.assertIs(view.is_within(view), True)
        self.assertIs(are_alike(MOST, MOST, NAMES, limit=2000), True)
        self.assertEqual(view.renamed("mb", "a").renamed("a", "mb"), view)

    def test_long_values(self):
        edit = Edit(ROW, PAIRS, NAMES)
        many = sorted("q" + chr(97 + at // 26) + chr(97 + at % 26) for at in range(600))
        disk = tuple(((50, place), 0) for place in range(3000))
        changes = tuple((name, (((50, at), 1),)) for at, name in enumerate(many))
        ties = tuple(zip(many[1:], many))
        for parts in ((disk, changes, ()), (disk, changes, ties), (disk[:600], changes, ties + ((many[0], many[-1]),))):
            for lot in ((), tuple(many), ("ma",) * 3000):
                self.assertIn(stranger_holds(edit, ("lot", parts, lot)), (True, False))
            self.assertIs(stranger_holds(edit, ("ring", parts)), False)
        steps = tuple(("before", "ma", "mb") for _ in range(4000))
        self.assertIs(refusal_holds(ROW, (("has", "mb"),) + steps + (("lacks", "ma"),), has=("mb",), lacks=("ma",)), True)
        self.assertIs(table_holds(edit, ((NAMES, NAMES),) * 5000), False)
