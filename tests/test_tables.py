"""Points 12, 13 and 21: tables, least ones and others, combined and lifted ones."""

import copy
import random
import unittest

from heldparts.contexts import Context
from heldparts.edits import Edit
from heldparts.errors import NoStore
from heldparts.stores import Store
from heldparts.tables import combined, lifted, table_holds
from heldparts.views import View
from tests.edit_samples import changed, random_context, random_edit
from tests.lot_model import around, model_of, suits, table_choices
from tests.samples import ANY, BARE, DISK, EMPTY, NOTHING, ONE, X, Y

EDITS = tuple(random_edit(seed) for seed in range(700))
WITH_LINES = tuple((edit, lines) for edit, lines in ((edit, table_choices(edit)) for edit in EDITS) if lines is not None)


def wrong_tables(source, lines, before):
    """Tables with one thing put otherwise, none of which can be one: lines are (lot, choices)."""
    table = tuple((lot, choices[0]) for lot, choices in lines)
    at = source.randrange(len(table))
    lot, other = table[at]
    found = [table[:at] + table[at + 1:], table[:at + 1] + table[at:], table + table[-1:], list(table), dict(table),
             table[:at] + ([lot, other],) + table[at + 1:], table[:at] + ((list(lot), other),) + table[at + 1:],
             table[:at] + ((lot, list(other)),) + table[at + 1:], table[:at] + ((lot,),) + table[at + 1:],
             table[:at] + ((lot, other, other),) + table[at + 1:], table[:at] + ((lot + ("zzzz",), other),) + table[at + 1:],
             table[:at] + ((lot, other + ("zzzz",)),) + table[at + 1:], table[:at] + (None,) + table[at + 1:], (),
             table[:at] + ((lot, None),) + table[at + 1:], table[:at] + ((None, other),) + table[at + 1:], table[:-1]]
    if len(table) > 1:
        found += [table[::-1], table[1:] + table[:1], table[:-2] + table[:-3:-1]]
    for near in before.lots():
        if near not in lines[at][1]:
            found.append(table[:at] + ((lot, near),) + table[at + 1:])
    return found


class TestTableHolds(unittest.TestCase):

    def test_the_least_table(self):
        for edit in EDITS:
            told = edit.examine()
            if told[0] == "table":
                self.assertIs(table_holds(edit, told[1]), True)
                self.assertIs(table_holds(thing=told[1], edit=edit), True)
            else:
                self.assertIs(table_holds(edit, told), False)
        self.assertGreater(len(WITH_LINES), 300)

    def test_other_lots_that_will_do(self):
        source = random.Random(1)
        more = 0
        for edit, lines in WITH_LINES:
            for _ in range(3):
                table = tuple((lot, source.choice(choices)) for lot, choices in lines)
                more += table != edit.examine()[1]
                self.assertIs(table_holds(edit, table), True)
        self.assertGreater(more, 50)

    def test_one_thing_put_otherwise(self):
        source = random.Random(2)
        for edit, lines in WITH_LINES[:400]:
            before = model_of(edit.before)
            for thing in wrong_tables(source, lines, before):
                self.assertIs(table_holds(edit, thing), False, repr(thing)[:80])

    def test_no_lot_that_will_do(self):
        # Where the store before the edit lacks a lot that will do, no choice of its lots makes a table.
        source = random.Random(3)
        for edit in EDITS:
            if table_choices(edit) is None:
                others = model_of(edit.before).lots()
                for _ in range(5):
                    table = tuple((lot, source.choice(others)) for lot in model_of(edit.after).lots())
                    self.assertIs(table_holds(edit, table), False)

    def test_the_reasons_one_by_one(self):
        ghost = Store(DISK, (("a", ((X, 0),)), ("k", ((Y, 0),))), ())
        edit = Edit(ghost, ghost, ("k",))
        right = (((), ()), (("a",), ("a",)), (("k",), ("k",)), (("a", "k"), ("a", "k")))
        self.assertIs(table_holds(edit, right), True)
        self.assertIs(table_holds(edit, (((), ("a",)),) + right[1:]), True)
        # Other kept names, and a cell that is not done.
        self.assertIs(table_holds(edit, (((), ("k",)),) + right[1:]), False)
        self.assertIs(table_holds(edit, right[:2] + ((("k",), ()),) + right[3:]), False)
        self.assertIs(table_holds(edit, right[:1] + ((("a",), ()),) + right[2:]), False)
        # Another content.
        loud = Store(DISK, (("a", ((X, 1),)), ("k", ((Y, 0),))), ())
        self.assertIs(table_holds(Edit(loud, loud, ("k",)), right), True)
        self.assertIs(table_holds(Edit(loud, loud, ("k",)), (((), ("a",)),) + right[1:]), False)

    def test_a_shown_pair_more(self):
        free = Store(DISK, (("a", ((X, 0),)), ("k", ((Y, 0),))), ())
        tied = free.tied("a", "k")
        lines = (((), ()), (("k",), ("k",)), (("a", "k"), ("a", "k")))
        # Each lot of the tied store has one that will do; only the shown pair is in the way.
        self.assertIs(table_holds(Edit(free, tied, ("k",)), lines), False)
        self.assertIs(table_holds(Edit(free, tied, ("a", "k")), lines), False)
        self.assertIs(table_holds(Edit(free, tied, ("a",)), lines), True)
        self.assertIs(table_holds(Edit(free, tied), lines), True)
        self.assertEqual(Edit(free, tied, ("k",)).examine()[0], "ring")

    def test_a_shown_pair_of_changes_more(self):
        # k shows before the cell of j anyway, by m; only that it shows before j is new.
        free = Store(DISK, (("j", ((X, 1),)), ("k", ((Y, 1),)), ("m", ((X, 2),))), (("m", "j"), ("m", "k")))
        tied = free.tied("j", "k")
        lines = (((), ()), (("k",), ("k",)), (("j", "k"), ("j", "k")), (("j", "k", "m"), ("j", "k", "m")))
        self.assertIs(table_holds(Edit(free, tied, ("j", "k")), lines), False)
        self.assertIs(table_holds(Edit(tied, tied, ("j", "k")), lines), True)
        self.assertIs(table_holds(Edit(free, tied, ("k",)), lines), True)
        self.assertEqual(Edit(free, tied, ("j", "k")).examine()[0], "ring")
        self.assertIs(View.of(tied, ("j", "k")).is_within(View.of(free, ("j", "k"))), False)
        self.assertIs(View.of(tied, ("k",)).is_within(View.of(free, ("k",))), True)

    def test_any_value(self):
        for edit in (Edit(ONE, ONE), Edit(ONE, BARE), Edit(NOTHING, NOTHING), Edit(EMPTY, EMPTY, ())):
            for thing in ANY:
                self.assertIs(table_holds(edit, thing), False)
                self.assertIs(table_holds(edit, (thing,)), False)
                self.assertIs(table_holds(edit, ((thing, ()),)), repr(thing) == "()" and len(edit.after) == 0)
                self.assertIs(table_holds(edit, (((), thing),)), repr(thing) == "()" and len(edit.after) == 0)
        self.assertIs(table_holds(Edit(ONE, ONE), ((("a",) * 3000, ()),) * 3), False)

    def test_far_too_many_lots(self):
        disk = tuple(((at, 0), 0) for at in range(24))
        names = tuple("n" + chr(97 + at) for at in range(24))
        store = Store(disk, tuple((name, (((at, 0), 1),)) for at, name in enumerate(names)), ())
        lines = (((), ()),) + tuple(((name,), (name,)) for name in names)
        self.assertIs(table_holds(Edit(store, store, names), lines), False)

    def test_the_example(self):
        self.assertIs(table_holds(Edit(ONE, BARE), (((), ()), (("k",), ("k",)))), False)

    def test_nothing_changes(self):
        for edit, lines in WITH_LINES[:60]:
            table = [[lot, choices[0]] for lot, choices in lines]
            before = copy.deepcopy((edit.before.text, edit.after.text, table))
            table_holds(edit, table)
            self.assertEqual((edit.before.text, edit.after.text, table), before)


class TestCombined(unittest.TestCase):

    def test_the_example(self):
        self.assertEqual(combined((((), ()),), (((), ()), (("a",), ()))), (((), ()), (("a",), ())))

    def test_of_edits_that_follow(self):
        source = random.Random(4)
        count = 0
        for first, lines in WITH_LINES:
            for way in ("drop", "join", "untie", "tie"):
                try:
                    after = changed(source, first.after, first.kept, way)
                except NoStore:
                    continue
                second = Edit(first.after, after, tuple(name for name in first.kept if name in after)[:2])
                others = table_choices(second)
                if others is None or after == first.after:
                    continue
                count += 1
                one = tuple((lot, source.choice(choices)) for lot, choices in lines)
                two = tuple((lot, source.choice(choices)) for lot, choices in others)
                both = combined(one, two)
                leads = dict(one)
                self.assertEqual(both, tuple((lot, leads[middle]) for lot, middle in two))
                self.assertEqual(combined(other=two, table=one), both)
                self.assertIs(table_holds(first.then(second), both), True)
        self.assertGreater(count, 100)


class TestLifted(unittest.TestCase):

    def test_into_contexts(self):
        source = random.Random(5)
        count = 0
        for edit, lines in WITH_LINES * 2:
            parts = random_context(source, edit)
            if not (suits(parts, edit.before, edit.kept) and suits(parts, edit.after, edit.kept)):
                continue
            after = around(parts, edit.after)
            if after is None or around(parts, edit.before) is None:
                continue
            count += 1
            table = tuple((lot, source.choice(choices)) for lot, choices in lines)
            added = {name for name, _ in parts[1]}
            expected = []
            for lot in after.lots():
                other = dict(table)[tuple(name for name in lot if name not in added)]
                expected.append((lot, tuple(sorted(set(other) | (added & set(lot))))))
            context = Context(*parts)
            self.assertEqual(lifted(edit, context, table), tuple(expected))
            self.assertEqual(lifted(table=table, context=context, edit=edit), tuple(expected))
            self.assertIs(table_holds(edit.within(context), tuple(expected)), True)
        self.assertGreater(count, 300)

    def test_into_nothing(self):
        for edit, _ in WITH_LINES[:50]:
            table = edit.examine()[1]
            self.assertEqual(lifted(edit, Context.nothing(), table), table)
