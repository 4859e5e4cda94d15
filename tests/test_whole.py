"""Points 1 to 3 over the whole program: what the guarantee says of edits, contexts, views, rules and modules."""

import random
import unittest

from heldparts.batches import batch_stranger_holds, examine_batch
from heldparts.contexts import Context
from heldparts.edits import Edit, shown_pairs
from heldparts.errors import HeldError, NoContext, NoEdit, NoStore, Ring, TooMany
from heldparts.fitting import fitting, refusal_holds
from heldparts.forms import is_cell, is_change, is_content, is_name
from heldparts.judging import break_holds, judge, paper_holds, spared
from heldparts.keepers import Keeper
from heldparts.kinds import Drop, Join, Split, Tie, Untie
from heldparts.logs import audit
from heldparts.lots import is_lot, lots
from heldparts.reducing import after_row, reduced
from heldparts.stores import Store
from heldparts.strangers import noticed_by, pruned, stranger_holds
from heldparts.tables import combined, lifted, table_holds
from heldparts.views import View, are_alike
from tests.edit_samples import random_context, random_edit
from tests.judged_samples import judged_module
from tests.kind_samples import sample
from tests.lot_model import suits
from tests.samples import ANY, ONE

EDITS = tuple(random_edit(seed) for seed in range(3000, 3260))


def small_contexts(edit):
    """Contexts of one added change: over or beside the cells, behind or before kept changes."""
    fresh = ((9, 0), 0)
    names = [name for name in ("m", "n", "o", "p", "q") if name not in edit.before and name not in edit.after][:1]
    for name in names:
        spots = [((), ((cell, 7),)) for cell in edit.before.cells] + [((fresh,), ((fresh[0], 7),))]
        for disk, writes in spots:
            choices = [()] + [((name, kept),) for kept in edit.kept] + [((kept, name),) for kept in edit.kept]
            choices += [((name, first), (second, name)) for first in edit.kept for second in edit.kept]
            for ties in choices:
                yield Context(disk, ((name, writes),), tuple(sorted(ties)))


def kinds_of(store, kept):
    """Some edits of each kind."""
    free = [name for name in store.names if name not in kept]
    for kind, choices in (
            (Join, [(first, second) for first in free for second in free]), (Drop, [(name,) for name in free]),
            (Tie, [(first, second) for first in store.names for second in store.names]), (Untie, list(store.ties)),
            (Split, [(name, "new", (store.writes(name)[0][0],)) for name in free])):
        for choice in choices:
            try:
                yield kind(store, *choice, kept)
            except NoEdit:
                continue


class TestGuarantee(unittest.TestCase):

    def test_tables_against_contexts_of_one_added_change(self):
        noticed = unnoticed = 0
        for edit in EDITS:
            told = edit.examine()
            seen = []
            for context in small_contexts(edit):
                try:
                    seen.append(noticed_by(edit, context))
                except NoContext:
                    self.fail("a context of one added change suits")
            if told[0] == "table":
                unnoticed += 1
                self.assertEqual([way for way in seen if way is not None], [])
                self.assertIs(table_holds(edit, told[1]), True)
                self.assertIs(stranger_holds(edit, told), False)
            else:
                noticed += 1
                self.assertIs(stranger_holds(edit, told), True)
                self.assertIs(table_holds(edit, told), False)
                if told[0] == "lot":
                    self.assertLessEqual(len(told[1][1]), len(edit.kept) + len(edit.before.cells))
                    self.assertEqual(noticed_by(edit, Context(*told[1]))[0], "lot")
                    self.assertIs(stranger_holds(edit, pruned(edit, told)), True)
                if told[0] == "ring":
                    self.assertEqual(len(told[1][1]), 1)
                    self.assertEqual(noticed_by(edit, Context(*told[1])), ("ring",))
                if told[0] == "memory":
                    self.assertEqual(noticed_by(edit, Context.nothing()), ("memory",))
        self.assertGreater(min(noticed, unnoticed), 60)

    def test_views(self):
        for edit in EDITS:
            before, after = View.of(edit.before, edit.kept), View.of(edit.after, edit.kept)
            there = edit.examine()[0] == "table" and edit.before.memory == edit.after.memory
            self.assertIs(after.is_within(before), there)
            back = Edit(edit.after, edit.before, edit.kept).examine()[0] == "table"
            self.assertIs(are_alike(edit.before, edit.after, edit.kept), there and back)
            self.assertIs(before == after, there and back)
            self.assertEqual(before.shown, shown_pairs(edit.before, edit.kept))

    def test_edits_within_contexts_side_by_side_and_one_behind_another(self):
        source = random.Random(1)
        counts = {"within": 0, "beside": 0, "then": 0}
        far = [Edit(*[Store(tuple(((cell[0] + 20, cell[1]), value) for cell, value in store.disk),
                            tuple(("q" + name[:7], tuple(((cell[0] + 20, cell[1]), value) for cell, value in writes)) for name, writes in store.changes),
                            tuple(("q" + later[:7], "q" + earlier[:7]) for later, earlier in store.ties)) for store in (edit.before, edit.after)],
                    tuple("q" + name[:7] for name in edit.kept)) for edit in EDITS[:40]]
        good = [edit for edit in far if edit.examine()[0] == "table"]
        for edit in EDITS:
            told = edit.examine()
            if told[0] != "table":
                continue
            parts = random_context(source, edit)
            if suits(parts, edit.before, edit.kept) and suits(parts, edit.after, edit.kept):
                context = Context(*parts)
                try:
                    inner = edit.within(context)
                    self.assertIs(table_holds(inner, lifted(edit, context, told[1])), True)
                    self.assertEqual(inner.examine(limit=2000)[0], "table")
                    counts["within"] += 1
                except Ring:
                    pass
            other = source.choice(good)
            self.assertEqual((edit | other).examine(limit=5000)[0], "table")
            counts["beside"] += 1
            for next_one in kinds_of(edit.after, edit.kept):
                second = next_one.examine()
                if second[0] == "table":
                    both = edit.then(next_one)
                    self.assertIs(table_holds(both, combined(told[1], second[1])), True)
                    counts["then"] += 1
        self.assertGreater(min(counts.values()), 60, counts)

    def test_rules_rows_logs_and_reduced_stores(self):
        rows = 0
        for seed in range(80):
            store, kept = sample(seed + 700, most=5)
            for edit in kinds_of(store, kept):
                told = edit.examine()[0] == "table"
                if edit.rule() is not None:
                    self.assertIs(edit.rule(), told)
                log = (("edit", edit.after),)
                self.assertEqual(audit(store, kept, log)[0], "right" if told else "wrong")
                self.assertIs(View.of(edit.after, kept).is_within(View.of(store, kept)), told)
            try:
                row, least = reduced(store, kept)
            except TooMany:
                continue
            rows += len(row)
            self.assertEqual(after_row(store, kept, row), least)
            self.assertEqual(Edit(store, least, kept).examine()[0], "table")
            self.assertEqual(audit(store, kept, (("edit", least),))[1:], (least, kept))
        self.assertGreater(rows, 40)

    def test_batches(self):
        source = random.Random(2)
        kinds = {True: 0, False: 0}
        for edit in EDITS:
            told = examine_batch(edit)
            kinds[told[0] == "lines"] += 1
            if told[0] != "lines":
                self.assertIs(batch_stranger_holds(edit, told), True)
                continue
            self.assertEqual(edit.before.memory, edit.after.memory)
            parts = random_context(source, edit)
            if suits(parts, edit.before, edit.kept) and suits(parts, edit.after, edit.kept):
                context = Context(*parts)
                self.assertIs(batch_stranger_holds(edit, ("ring", parts)), False)
                try:
                    after = context.around(edit.after, edit.kept)
                except Ring:
                    continue
                for lot in list(lots(after))[:60]:
                    self.assertIs(batch_stranger_holds(edit, ("lot", parts, lot)), False)
        self.assertGreater(min(kinds.values()), 40)

    def test_modules_judged_alone_keep_their_promise_together(self):
        source = random.Random(3)
        keeping, breaking = [], 0
        for seed in range(120):
            module = judged_module(seed)
            try:
                told = judge(module, limit=400)
            except TooMany:
                continue
            if told[0] == "keeps":
                self.assertIs(paper_holds(module, told[1]), True)
                keeping.append(spared(module, limit=2000))
            else:
                breaking += 1
                self.assertIs(break_holds(module, told[1:]), True)
                keeper = Keeper(module)
                for name, number in told[1]:
                    keeper.do(0, name, number)
                self.assertIn((0, told[2]), list(keeper.broken()))
        self.assertGreater(breaking, 20)
        for module in keeping:
            keeper = Keeper(module)
            for _ in range(6):
                if module.inputs and len(keeper.store) < 7:
                    keeper.do(0, *source.choice(module.inputs))
                    kept = tuple(sorted(name for _, _, name in keeper.held))
                    for edit in kinds_of(keeper.store, kept):
                        try:
                            keeper.edit(edit)
                            break
                        except NoEdit:
                            continue
                    self.assertEqual(list(keeper.broken()), [])

    def test_any_value(self):
        edit = EDITS[0]
        for thing in ANY:
            for call in (is_cell, is_content, is_name, is_change, lambda thing: is_lot(ONE, thing), lambda thing: table_holds(edit, thing),
                         lambda thing: stranger_holds(edit, thing), lambda thing: batch_stranger_holds(edit, thing),
                         lambda thing: refusal_holds(ONE, thing), lambda thing: paper_holds(judged_module(1), thing),
                         lambda thing: break_holds(judged_module(1), thing)):
                self.assertIn(call(thing), (True, False))

    def test_errors_have_one_base(self):
        for kind in (NoContext, NoEdit, NoStore, Ring, TooMany):
            self.assertTrue(issubclass(kind, HeldError))

    def test_wishes_of_lots_of_reduced_stores(self):
        for seed in range(40):
            store, kept = sample(seed + 100, most=5)
            for edit in kinds_of(store, kept):
                if edit.rule():
                    for lot in lots(edit.after):
                        seen = View.of(edit.after, ()).entries[0][0]
                        told = fitting(store, seen, has=tuple(name for name in lot if name in kept)[:1])
                        if told[0] == "none":
                            self.assertIs(refusal_holds(store, told[1], seen, has=tuple(name for name in lot if name in kept)[:1]), True)
                    break
