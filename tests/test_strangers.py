"""Points 3, 8, 9, 10 and 14: strangers, who notices an edit, and pruned strangers."""

import copy
import random
import unittest

from heldparts.contexts import Context
from heldparts.edits import Edit
from heldparts.errors import NoContext, TooMany
from heldparts.forms import is_content, name_of
from heldparts.stores import Store
from heldparts.strangers import noticed_by, pruned, stranger_holds
from heldparts.tables import table_holds
from heldparts.views import View, are_alike
from tests.edit_samples import random_context, random_edit, ring_context
from tests.lot_model import around, is_stranger, least_table, new_lots, noticed, suits
from tests.samples import ANY, BARE, CHAIN, DISK, EMPTY, NOTHING, ONE, X, Y, Z
from tests.test_edits import JOINED

EDITS = tuple(random_edit(seed) for seed in range(1000, 1450))
LATE = ((), (("c", ((X, 5),)),), (("k", "c"),))
OVER = ((), (("c", ((X, 5),)),), ())


def suits_edit(parts, edit):
    return suits(parts, edit.before, edit.kept) and suits(parts, edit.after, edit.kept)


def is_context(parts):
    """Point 4 with the first sentence of point 8, for a tuple of three."""
    disk, changes, ties = parts
    if not all(isinstance(part, tuple) for part in parts):
        return False
    names = [name for name, _ in changes]
    good = all(is_content(writes) and len({cell[0] for cell, _ in writes}) == 1 for _, writes in changes)
    return is_content(disk) and good and names == sorted(set(names)) and list(ties) == sorted(set(ties))


def made_strangers(edit, source):
    """Strangers that are made here, of all three kinds."""
    found = [("memory",)] if is_stranger(edit, ("memory",)) else []
    for count in range(6):
        parts = random_context(source, edit, 4) if count else ring_context(source, edit)
        if parts is not None and suits_edit(parts, edit):
            told = noticed(edit, parts)
            if told == ("ring",):
                found.append(("ring", parts))
            before, after = around(parts, edit.before), around(parts, edit.after)
            if before is not None and after is not None:
                found += [("lot", parts, lot) for lot in new_lots(before, after)[:3]]
    return found


def otherwise(thing, source):
    """Values like a stranger with a context, with one thing put otherwise: right forms, perhaps still a stranger."""
    disk, changes, ties = thing[1]
    names = ["a", "b", "ac", "ca", "k", "y", "zz"]
    cells = [cell for cell, _ in disk] + [(0, 0), (0, 1), (1, 0), (5, 5)]
    contexts = [(disk[:-1], changes, ties), (disk + (((9, 9), 1),), changes, ties), (disk, changes[:-1], ties),
                (disk, changes, ties[:-1]), (disk, changes[1:], ties), (disk, changes, ())]
    for at, (name, writes) in enumerate(changes):
        cell, value = source.choice(writes)
        other = source.choice(cells)
        for change in ((source.choice(names), writes), (name, tuple(
                (old, value + 1 if old == cell else had) for old, had in writes)), (name, ((other, value),))):
            contexts.append((disk, changes[:at] + (change,) + changes[at + 1:], ties))
    for at, tie in enumerate(ties):
        for other in ((tie[1], tie[0]), (source.choice(names), tie[1]), (tie[0], source.choice(names))):
            contexts.append((disk, changes, tuple(sorted(set(ties[:at] + (other,) + ties[at + 1:])))))
    found = [(thing[0], parts) + thing[2:] for parts in contexts]
    if thing[0] == "lot":
        lots = [thing[2][1:], thing[2][:-1], thing[2] + ("zz",), ()]
        found += [("lot", thing[1], lot) for lot in lots] + [("ring", thing[1])]
    else:
        found += [("lot", thing[1], ()), ("lot", thing[1], tuple(name for name, _ in changes))]
    return found


def of_other_kinds(thing):
    """Values like a stranger with a context that are none, by their form."""
    word, parts, *lot = thing
    disk, changes, ties = parts
    found = [list(thing), (word,), thing + (0,), thing + ((),) if word == "lot" else (word,), thing[::-1], (word.upper(),) + thing[1:],
             (None,) + thing[1:], (1,) + thing[1:], ("memory",) + thing[1:], thing[1:], word, parts, (thing,)]
    contexts = [list(parts), parts + ((),), parts[:2], Context(*parts), None, 0, "context", {0: parts}, (parts,),
                (list(disk), changes, ties), (disk, list(changes), ties), (disk, changes, list(ties)), (None, changes, ties),
                (disk, None, ties), (disk, changes, None), (disk, dict(changes), ties)]
    if changes:
        name, writes = changes[0]
        (cell, value), rest = writes[0], changes[1:]
        for change in ([name, writes], (name, list(writes)), (name, writes, 0), (name.upper(), writes), (name, ()), (name,),
                       (name, (([cell[0], cell[1]], value),) + writes[1:]), (name, ((cell, None),) + writes[1:]),
                       (name, ((cell, True),) + writes[1:]), (name, ((cell, value), (cell, value))), (1, writes)):
            contexts.append((disk, (change,) + rest, ties))
        contexts += [(disk, changes[:1] + changes, ties), (disk, changes, ties + (("b", "a"), ("a", "b")))]
    found += [(word, other, *lot) for other in contexts]
    if word == "lot":
        names = lot[0]
        found += [("lot", parts, other) for other in (
            list(names), None, "a", names + (None,), names + (1,), {}, names * 2 + ("a",) * 3000, (names,), (list(names),))]
    return found


class TestStrangerHolds(unittest.TestCase):

    def test_what_examine_returns(self):
        for edit in EDITS:
            told = edit.examine()
            self.assertIs(stranger_holds(edit, told), told[0] != "table")
            self.assertIs(stranger_holds(thing=told, edit=edit), told[0] != "table")

    def test_either_a_table_or_a_stranger(self):
        source = random.Random(1)
        kinds = {"memory": 0, "ring": 0, "lot": 0}
        for edit in EDITS:
            table = least_table(edit)
            found = made_strangers(edit, source)
            for thing in found:
                kinds[thing[0]] += 1
                self.assertIs(stranger_holds(edit, thing), True)
            if table is not None:
                self.assertEqual(found, [])
                self.assertIs(table_holds(edit, table), True)
                self.assertIs(stranger_holds(edit, ("memory",)), False)
            else:
                self.assertIs(stranger_holds(edit, edit.examine()), True)
                self.assertIs(table_holds(edit, edit.examine()), False)
        self.assertGreater(min(kinds.values()), 10)

    def test_one_thing_put_otherwise(self):
        source = random.Random(2)
        answers = {True: 0, False: 0}
        for edit in EDITS:
            told = edit.examine()
            for thing in made_strangers(edit, source)[:4] + ([told] if told[0] in ("ring", "lot") else []):
                if len(thing) == 1:
                    continue
                for other in otherwise(thing, source):
                    expected = is_context(other[1]) and is_stranger(edit, other)
                    answers[expected] += 1
                    self.assertIs(stranger_holds(edit, other), expected, other)
        self.assertGreater(min(answers.values()), 300)

    def test_of_other_kinds(self):
        source = random.Random(3)
        asked = {"ring": 0, "lot": 0}
        for edit in EDITS:
            for thing in made_strangers(edit, source)[:2]:
                if len(thing) > 1 and asked[thing[0]] < 60:
                    asked[thing[0]] += 1
                    self.assertIs(stranger_holds(edit, thing), True)
                    for other in of_other_kinds(thing):
                        self.assertIs(stranger_holds(edit, other), False, repr(other)[:90])
        self.assertGreater(min(asked.values()), 20)

    def test_memory(self):
        for edit in EDITS[:200] + (Edit(ONE, EMPTY), Edit(ONE, BARE), Edit(NOTHING, NOTHING)):
            unlike = edit.before.memory != edit.after.memory
            self.assertIs(stranger_holds(edit, ("memory",)), unlike)
            for thing in (["memory"], "memory", ("memory", ()), ("memory", None), ("Memory",), (), (("memory",),), ("ring",),
                          ("lot",), {"memory": 1}, ("memory", ((), (), ()))):
                self.assertIs(stranger_holds(edit, thing), False)

    def test_contexts_that_suit_only_one_of_both_stores(self):
        # The store without a has room for an added change of this name, the other one has not.
        context = ((), (("a", ((X, 5),)),), (("k", "a"),))
        free = ((), (("a", ((X, 5),)),), ())
        for edit in (Edit(ONE, BARE, ("k",)), Edit(BARE, ONE, ("k",)), Edit(ONE, JOINED, ("k",))):
            for parts in (context, free):
                self.assertIs(stranger_holds(edit, ("ring", parts)), False)
                self.assertIs(stranger_holds(edit, ("lot", parts, ("a",))), False)
                self.assertIs(stranger_holds(edit, ("lot", parts, ())), False)
                with self.assertRaises(NoContext):
                    noticed_by(edit, Context(*parts), limit=0)
        other = ((), (("c", ((X, 5),)),), (("k", "c"),))
        self.assertIs(stranger_holds(Edit(ONE, BARE, ("k",)), ("ring", other)), True)
        self.assertIs(stranger_holds(Edit(ONE, BARE), ("ring", other)), False)

    def test_values_that_only_the_store_before_has(self):
        edit = Edit(ONE, BARE)
        self.assertIs(is_stranger(edit, edit.examine()), True)
        self.assertIs(stranger_holds(edit, ("lot", ((), (("c", ((X, 1),)),), ()), ("c",))), False)
        row = Store(DISK, tuple((name, ((X, value),)) for name, value in zip("abcd", (3, 2, 1, 0))),
                    (("b", "a"), ("c", "b"), ("d", "c"))) | Store(((Z, 0),), (("k", ((Z, 1),)),), ())
        edit = Edit(row.tied("d", "k"), Store(row.disk, row.changes[-1:], ()))
        self.assertEqual(edit.examine()[0], "lot")
        self.assertIs(is_stranger(edit, edit.examine()), True)

    def test_true_and_false_are_no_numbers(self):
        edit = Edit(ONE, BARE)
        self.assertIs(stranger_holds(edit, ("lot", OVER, ("c",))), True)
        for writes in ((((False, 0), 5),), (((0, False), 5),), ((X, True),)):
            self.assertIs(stranger_holds(edit, ("lot", ((), (("c", writes),), ()), ("c",))), False)
        disk = ((((1, 1), 1), ((2, 0), 0)), (("c", ((X, 5),)),), ())
        self.assertIs(stranger_holds(edit, ("lot", disk, ("c",))), True)
        for cell in (((True, 1), 1), ((1, True), 1), ((1, 1), True)):
            self.assertIs(stranger_holds(edit, ("lot", ((cell,) + disk[0][1:],) + disk[1:], ("c",))), False)

    def test_any_value(self):
        for edit in (Edit(ONE, BARE), Edit(ONE, BARE, ("k",)), Edit(ONE, EMPTY), Edit(NOTHING, NOTHING), Edit(CHAIN, CHAIN)):
            for thing in ANY:
                self.assertIs(stranger_holds(edit, thing), False)
                for word in ("memory", "ring", "lot"):
                    self.assertIs(stranger_holds(edit, (word, thing)), False)
                    self.assertIs(stranger_holds(edit, (word, thing, ("c",))), False)
                    self.assertIs(stranger_holds(edit, (word, (thing, (), ()), ())), False)
                    self.assertIs(stranger_holds(edit, (word, ((), thing, ()), ())), False)
                    self.assertIs(stranger_holds(edit, (word, ((), (), thing), ())), False)
                self.assertIs(stranger_holds(edit, (thing, ((), (), ()))), False)
                self.assertIs(stranger_holds(edit, ("lot", OVER, thing)), False)

    def test_too_many_lots_to_list(self):
        disk = tuple(((at, 0), 0) for at in range(12))
        changes = tuple(("m" + chr(97 + at), (((at, 0), 1),)) for at in range(12))
        store = Store(disk, changes, ())
        free = (tuple(((at, 7), 0) for at in range(12)),
                tuple(("n" + chr(97 + at), (((at, 7), 1),)) for at in range(12)), ())
        names = tuple(name for name, _ in free[1])
        tied = store.tied("ma", "mb")
        self.assertIs(stranger_holds(Edit(tied, store), ("lot", free, ("ma",) + names)), True)
        self.assertIs(stranger_holds(Edit(tied, store), ("lot", free, ("ma", "mb") + names)), False)
        self.assertIs(stranger_holds(Edit(store, tied), ("lot", free, ("mb",) + names)), False)
        self.assertIs(stranger_holds(Edit(store, tied, store.names), ("ring", free)), False)
        ring = (free[0], free[1], (("mb", "na"), ("na", "ma")))
        self.assertIs(stranger_holds(Edit(store, tied, ("ma", "mb")), ("ring", ring)), True)
        over = ((), tuple(("n" + chr(97 + at), (((at, 0), 2),)) for at in range(12)), ())
        self.assertIs(stranger_holds(Edit(tied, store), ("lot", over, ("ma", "na"))), True)
        self.assertIs(stranger_holds(Edit(tied, store), ("lot", over, ("ma", "mb", "na"))), False)


class TestNoticedBy(unittest.TestCase):

    def test_against_the_words(self):
        source = random.Random(4)
        told = {None: 0, "memory": 0, "ring": 0, "lot": 0, "suits": 0}
        for at, edit in enumerate(EDITS * 4):
            parts = ring_context(source, edit) if at < len(EDITS) else None
            parts = parts or random_context(source, edit)
            if not suits_edit(parts, edit):
                told["suits"] += 1
                self.assert_unsuited(edit, parts)
                continue
            expected = noticed(edit, parts)
            told[expected and expected[0]] += 1
            self.assertEqual(noticed_by(edit, Context(*parts)), expected)
            self.assertEqual(noticed_by(context=Context(*parts), edit=edit, limit=2000), expected)
        self.assertGreater(min(told.values()), 15)

    def assert_unsuited(self, edit, parts):
        for limit in (0, 500):
            with self.assertRaises(NoContext) as caught:
                noticed_by(edit, Context(*parts), limit=limit)
            self.assertEqual(caught.exception.word, "suits")

    def test_contexts_of_strangers(self):
        for edit in EDITS:
            told = edit.examine()
            if told[0] == "ring":
                self.assertEqual(noticed_by(edit, Context(*told[1])), ("ring",))
            if told[0] == "lot":
                self.assertEqual(noticed_by(edit, Context(*told[1])), noticed(edit, told[1]))
                self.assertEqual(noticed_by(edit, Context(*told[1]))[0], "lot")
            if told[0] == "memory":
                self.assertEqual(noticed_by(edit, Context()), ("memory",))

    def test_examples(self):
        over, late = Context(*OVER), Context(*LATE)
        told = [noticed_by(Edit(ONE, BARE), over), noticed_by(Edit(ONE, JOINED), over),
                noticed_by(Edit(ONE, BARE, ("k",)), late)]
        self.assertEqual(told, [("lot", ("c",)), None, ("ring",)])
        self.assertIs(stranger_holds(Edit(ONE, BARE), ("lot", over.parts, ("c",))), True)

    def test_a_ring_with_both_is_not_noticed(self):
        pair = Context((), (("c", ((X, 5),)), ("d", ((Y, 5),))), (("c", "d"), ("d", "c")))
        for edit in (Edit(ONE, BARE), Edit(ONE, EMPTY), Edit(ONE, ONE)):
            self.assertIsNone(noticed_by(edit, pair, limit=0))

    def test_a_ring_comes_before_the_memory(self):
        edit = Edit(ONE, Store(DISK, (("a", ((X, 9),)), ("k", ((Y, 1),))), ()), ("k",))
        self.assertEqual(noticed_by(edit, Context.nothing(), limit=0), ("memory",))
        self.assertEqual(noticed_by(edit, Context(*LATE), limit=0), ("ring",))
        self.assertEqual(noticed_by(edit, Context(((Z, 0),), (("c", ((Z, 1),)),)), limit=0), ("memory",))
        # What an added change covers is the same in both memories.
        self.assertEqual(noticed_by(edit, Context(*OVER)), ("lot", ("a",)))

    def test_too_many(self):
        source = random.Random(5)
        asked = 0
        for edit in EDITS:
            parts = random_context(source, edit)
            if not suits_edit(parts, edit):
                continue
            before, after = around(parts, edit.before), around(parts, edit.after)
            if before is None or after is None or before.memory() != after.memory():
                noticed_by(edit, Context(*parts), limit=0)
                continue
            asked += 1
            count, told = len(after.lots()), noticed_by(edit, Context(*parts))
            self.assertEqual(noticed_by(edit, Context(*parts), limit=count), told)
            self.assertEqual(noticed_by(edit, Context(*parts), limit=count + 1), told)
            for limit in {0, count - 1}:
                with self.assertRaises(TooMany) as caught:
                    noticed_by(edit, Context(*parts), limit=limit)
                self.assertEqual(caught.exception.limit, limit)
        self.assertGreater(asked, 150)

    def test_five_hundred_unless_said(self):
        # Two rows beside one another: 20 times 25 lots, and 3 times 167.
        for counts in ((19, 24), (2, 166)):
            rows = [[letter + name_of(at) for at in range(count)] for letter, count in zip(("m", "n"), counts)]
            changes = [(name, (((row, 0), at),)) for row in (0, 1) for at, name in enumerate(rows[row])]
            ties = [(rows[row][at + 1], rows[row][at]) for row in (0, 1) for at in range(counts[row] - 1)]
            store = Store((((0, 0), -1), ((1, 0), -1)), tuple(changes), tuple(ties))
            edit = Edit(store, store)
            if counts[0] == 2:
                self.assertRaises(TooMany, noticed_by, edit, Context())
                self.assertRaises(TooMany, edit.examine)
                self.assertRaises(TooMany, View.of, store, ())
                self.assertRaises(TooMany, are_alike, store, store, ())
            self.assertIsNone(noticed_by(edit, Context(), limit=501))
            self.assertEqual(len(edit.examine(limit=501)[1]), 500 + (counts[0] == 2))
            if counts[0] == 19:
                self.assertIsNone(noticed_by(edit, Context()))
                self.assertEqual(len(edit.examine()[1]), 500)
                self.assertIs(are_alike(store, store, ()), True)
                self.assertEqual(len(View.of(store, ())), 500)

    def test_only_by_name(self):
        with self.assertRaises(TypeError):
            noticed_by(Edit(ONE, BARE), Context(), 500)


def without(thing, name):
    """What remains of a stranger without one of its added changes, in the words of point 14."""
    _, (disk, changes, ties), lot = thing
    gone = dict(changes)[name]
    rest = tuple(change for change in changes if change[0] != name)
    others = {cell for _, writes in rest for cell, _ in writes}
    left = tuple((cell, value) for cell, value in disk if cell not in dict(gone) or cell in others)
    return "lot", (left, rest, tuple(tie for tie in ties if name not in tie)), tuple(other for other in lot if other != name)


def pruned_by_words(edit, thing):
    _, (disk, changes, ties), lot = thing
    written = {cell for _, writes in changes for cell, _ in writes}
    thing = ("lot", (tuple(part for part in disk if part[0] in written), changes, ties), lot)
    while True:
        first = thing
        for name in sorted((name for name, _ in thing[1][1]), reverse=True):
            if is_stranger(edit, without(thing, name)):
                thing = without(thing, name)
        if thing == first:
            return thing


class TestPruned(unittest.TestCase):

    def test_against_the_words(self):
        source = random.Random(6)
        counts = {}
        for edit in EDITS:
            told = edit.examine()
            for thing in made_strangers(edit, source) + [told]:
                if thing[0] == "lot":
                    before = copy.deepcopy(thing)
                    expected = pruned_by_words(edit, thing)
                    left_out = len(thing[1][1]) - len(expected[1][1])
                    counts[left_out] = counts.get(left_out, 0) + 1
                    self.assertEqual(pruned(edit, thing), expected)
                    self.assertEqual(pruned(stranger=thing, edit=edit), expected)
                    self.assertEqual(thing, before)
                    self.assertIs(stranger_holds(edit, expected), True)
        self.assertGreater(min(counts.get(left_out, 0) for left_out in range(4)), 5)

    def test_cells_and_ties_go_with_a_change(self):
        disk = (((3, 0), 0), ((3, 1), 0), ((3, 2), 0))
        changes = (("c", ((X, 5),)), ("d", (((3, 0), 1), ((3, 1), 1))), ("e", (((3, 1), 2),)))
        thing = ("lot", (disk, changes, (("d", "c"), ("e", "d"))), ("c", "d", "e"))
        self.assertIs(stranger_holds(Edit(ONE, BARE), thing), True)
        self.assertEqual(pruned(Edit(ONE, BARE), thing), ("lot", OVER, ("c",)))

    def test_a_second_pass(self):
        # c and d write a cell and are tied by e alone, so e goes only when they are gone.
        disk = (((3, 0), 0), ((3, 1), 0))
        changes = (("aa", ((X, 5),)), ("c", (((3, 0), 1),)), ("d", (((3, 0), 2),)), ("e", (((3, 1), 1),)))
        thing = ("lot", (disk, changes, (("d", "e"), ("e", "c"))), ("aa", "c", "d", "e"))
        self.assertIs(stranger_holds(Edit(ONE, BARE), thing), True)
        self.assertEqual(pruned(Edit(ONE, BARE), thing), ("lot", ((), (("aa", ((X, 5),)),), ()), ("aa",)))

    def test_the_last_name_goes_first(self):
        # Each of both would do alone.
        two = ((), (("c", ((X, 5),)), ("d", ((X, 6),))), (("d", "c"),))
        thing = ("lot", two, ("c",))
        self.assertIs(stranger_holds(Edit(ONE, BARE), thing), True)
        self.assertEqual(pruned(Edit(ONE, BARE), thing), ("lot", OVER, ("c",)))
        thing = ("lot", two, ("c", "d"))
        self.assertEqual(pruned(Edit(ONE, BARE), thing), ("lot", OVER, ("c",)))
        turned = ("lot", two[:2] + ((("c", "d"),),), ("c", "d"))
        self.assertEqual(pruned(Edit(ONE, BARE), turned), ("lot", OVER, ("c",)))
