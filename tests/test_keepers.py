"""Points 7, 10, 26, 27 and 30: keepers, with trials and attempts."""

import itertools
import random
import unittest

from heldparts.edits import Edit
from heldparts.errors import HeldError, NoEdit, Noticed, NoStore, NotHeld, NoWrite, Ring, TooMany
from heldparts.judging import judge
from heldparts.keepers import Keeper
from heldparts.kinds import Drop, Join, Split, Tie, Untie
from heldparts.modules import Module
from heldparts.stores import Store
from heldparts.strangers import stranger_holds
from tests.keeper_model import KeeperModel
from tests.lot_model import least_table
from tests.module_samples import DRAWER, JOURNAL, LOOSE, random_module
from tests.samples import BARE, X, Y


def moved(module, block, place):
    """A module on other cells."""
    def cell_of(cell):
        return (cell[0] + block, cell[1] + place)

    def part_of(part):
        if isinstance(part, int) or part == ("input",):
            return part
        if part[0] == "cell":
            return ("cell", cell_of(part[1]))
        return (part[0],) + tuple(part_of(other) for other in part[1:])

    def body_of(body):
        return tuple(statement_of(*statement) for statement in body)

    def statement_of(word, *parts):
        if word == "put":
            return (word, tuple((cell_of(cell), part_of(part)) for cell, part in parts[0])) + tuple(parts[1:])
        if word == "if":
            return (word, part_of(parts[0]), body_of(parts[1]), body_of(parts[2]))
        return (word,) + tuple(parts)

    return Module(
        tuple((cell_of(cell), size, first) for cell, size, first in module.cells), module.handles,
        tuple((name, size, body_of(body)) for name, size, body in module.operations),
        (part_of(module.promise[0]), tuple(part_of(part) for part in module.promise[1])))


def some_modules(seed):
    """One to three modules, on common blocks or on others."""
    source = random.Random(seed)
    found = []
    for at in range(source.randint(1, 3)):
        module = source.choice([DRAWER, LOOSE, JOURNAL, random_module(seed * 10 + at), random_module(seed * 10 + at + 5)])
        found.append(moved(module, source.choice([0, 0, 7]), 10 * at))
    return tuple(found)


def renamed(store, old, new):
    changes = tuple((new if name == old else name, writes) for name, writes in store.changes)
    return Store(store.disk, changes, tuple(tuple(new if name == old else name for name in tie) for tie in store.ties))


def random_edit_of(source, store, kept, fresh):
    """An edit of a store of any kind, or None."""
    free = [name for name in store.names if name not in kept]
    try:
        way = source.choice(["join", "join", "drop", "tie", "untie", "split", "rename", "same"])
        if way == "join":
            return Join(store, *source.sample(free, 2), kept)
        if way == "drop":
            return Drop(store, source.choice(free), kept)
        if way == "tie":
            return Tie(store, *source.sample(store.names, 2), kept)
        if way == "untie":
            return Untie(store, *source.choice(store.ties), kept)
        if way == "split":
            name = source.choice(free)
            return Split(store, name, fresh, (store.writes(name)[0][0],), kept)
        if way == "rename":
            return Edit(store, renamed(store, source.choice(free), fresh), kept)
        return Edit(store, store, kept)
    except (NoEdit, NoStore, IndexError, ValueError):
        return None


class Checked(unittest.TestCase):

    def assert_like(self, keeper, model):
        self.assertEqual(keeper.store, model.store())
        self.assertEqual(keeper.held, model.held())
        self.assertEqual(keeper.made, model.made)
        self.assertEqual(list(keeper.broken()), model.broken())
        for name in ("store", "held", "made"):
            self.assertIn(name, vars(keeper))

    def state(self, keeper):
        return keeper.store.text, keeper.held, keeper.made, list(keeper.broken())

    def assert_raises_unchanged(self, expected, keeper, call, *arguments, **named):
        """That a call raises an error, and leaves the keeper as it was."""
        before = self.state(keeper)
        with self.assertRaises(type(expected)) as caught:
            call(*arguments, **named)
        self.assertIs(type(caught.exception), type(expected))
        if not isinstance(expected, Noticed):
            self.assertEqual(vars(caught.exception), vars(expected))
        self.assertEqual(self.state(keeper), before)
        return caught.exception


class TestKeeper(Checked):

    def one_step(self, source, keeper, model, count):
        """Something that is done to both, or a call that raises the error that the model expects."""
        modules = model.modules
        way = source.choice(["do", "do", "do", "tie", "tie", "write", "edit", "edit"])
        if len(model.changes) > 6:
            way = source.choice(["write", "edit"])
        if way == "do":
            at = source.randrange(len(modules))
            if modules[at].inputs:
                name, number = source.choice(modules[at].inputs)
                self.assertIsNone(keeper.do(at, name, number))
                model.do(at, name, number)
        elif way == "tie":
            keys = [(at, handle) for at, module in enumerate(modules) for handle in module.handles + ("zz",)]
            if len(model.holding) > 1 and source.random() < 0.8:
                keys = sorted(model.holding)
            one, two = source.choice(keys), source.choice(keys)
            missing = [key for key in (one, two) if key not in model.holding]
            if missing:
                self.assert_raises_unchanged(NotHeld(missing[0]), keeper, keeper.tie, *one, *two)
                return "not held"
            later, earlier = model.holding[one], model.holding[two]
            if later == earlier or (later, earlier) in model.pairs:
                self.assert_raises_unchanged(Ring((later, earlier)), keeper, keeper.tie, *one, *two)
                return "ring"
            self.assertIsNone(keeper.tie(*one, *two))
            model.tie(later, earlier)
        elif way == "write":
            return self.some_write(source, keeper, model)
        else:
            return self.some_edit(source, keeper, model, count)
        return way

    def some_write(self, source, keeper, model):
        names = source.sample(sorted(model.changes), min(len(model.changes), source.randint(0, 2)))
        if source.random() < 0.7 and names:
            block = next(iter(model.changes[names[0]]))[0]
            near = [first for first, last in model.pairs if last == names[0]]
            names = [names[0]] + [name for name in near if next(iter(model.changes[name]))[0] == block] + names[:1]
        if source.random() < 0.1:
            names = names + ["nobody"]
        if not model.can_write(names):
            self.assert_raises_unchanged(NoWrite(tuple(names)), keeper, keeper.write, *names)
            return "no write"
        self.assertIsNone(keeper.write(*names))
        model.write(names)
        return "write"

    def some_edit(self, source, keeper, model, count):
        must = {name for _, _, name in model.held()}
        kept = tuple(sorted(must | {name for name in model.changes if source.random() < 0.15}))
        if source.random() < 0.1:
            kept = kept[1:]
        fresh = source.choice(["new", "abcdefg"] + sorted(model.given) + ["qqqqqq" + chr(97 + count // 26) + chr(97 + count % 26)] * 5)
        edit = random_edit_of(source, keeper.store, kept, fresh)
        if edit is None:
            return "none"
        new = [name for name in edit.after.names if name not in model.changes]
        if not must <= set(kept):
            self.assert_raises_unchanged(NoEdit("kept"), keeper, keeper.edit, edit)
            return "kept"
        if any(len(name) < 8 or name in model.given for name in new):
            self.assert_raises_unchanged(NoEdit("name"), keeper, keeper.edit, edit)
            return "name"
        table = least_table(edit)
        if table is None:
            error = self.assert_raises_unchanged(Noticed(None), keeper, keeper.edit, edit)
            self.assertIs(stranger_holds(edit, error.stranger), True)
            return "noticed"
        self.assertEqual(keeper.edit(edit), table)
        model.take(edit.after)
        return "edit"

    def test_random_sessions(self):
        counts = {}
        for seed in range(120):
            source = random.Random(seed)
            modules = some_modules(seed)
            keeper, model = Keeper(*modules), KeeperModel(modules)
            self.assert_like(keeper, model)
            for count in range(30):
                if len(model.changes) > 9:
                    break
                told = self.one_step(source, keeper, model, count)
                counts[told] = counts.get(told, 0) + 1
                if len(model.changes) <= 8:
                    self.assert_like(keeper, model)
        self.assertEqual(
            set(counts), {"do", "tie", "write", "edit", "not held", "ring", "no write", "none", "kept", "name", "noticed"})
        self.assertGreater(min(counts.values()), 10, counts)

    def test_promises_of_modules_that_keep_them(self):
        # The guarantee: whatever is done, modules that keep their promises are never broken.
        keeping = [module for module in [random_module(seed) for seed in range(150)] + [DRAWER, JOURNAL] * 5
                   if module.inputs and judge(module, limit=2000)[0] == "keeps"]
        done = {"write": 0, "edit": 0, "tie": 0}
        for seed in range(70):
            source = random.Random(seed)
            modules = tuple(moved(source.choice(keeping), source.choice([0, 7]), 10 * at) for at in range(source.randint(1, 3)))
            keeper, model = Keeper(*modules), KeeperModel(modules)
            for count in range(25):
                if len(model.changes) > 9:
                    break
                told = self.one_step(source, keeper, model, count)
                if told in done:
                    done[told] += 1
                self.assertEqual(list(keeper.broken()), [])
        self.assertGreater(min(done.values()), 20, done)

    def test_a_common_cell(self):
        for modules in ((DRAWER, DRAWER), (JOURNAL, DRAWER, LOOSE), (DRAWER, moved(JOURNAL, 1, 0), moved(DRAWER, 0, 0))):
            with self.assertRaises(NoStore) as caught:
                Keeper(*modules)
            self.assertEqual(caught.exception.word, "cell")
            self.assertIs(type(caught.exception), NoStore)
        keeper = Keeper(DRAWER, moved(DRAWER, 0, 1))
        self.assertEqual(keeper.store.disk, ((X, 0), ((0, 1), 0), (Y, 0), ((1, 1), 0)))
        self.assertEqual((keeper.held, keeper.made), ((), 0))

    def test_by_name(self):
        keeper = Keeper(DRAWER, moved(JOURNAL, 0, 10))
        self.assertIsNone(keeper.do(number=1, name="add", module=1))
        self.assertIsNone(keeper.do(module=0, name="add"))
        self.assertEqual(keeper.held, ((0, "h", "c"), (1, "e", "a"), (1, "f", "b")))
        self.assertIsNone(keeper.tie(earlier="f", other=1, handle="h", module=0))
        self.assertIn(("c", "b"), keeper.store.ties)
        edit = Edit(keeper.store, keeper.store, ("a", "b", "c"))
        self.assertEqual(keeper.edit(edit=edit), least_table(edit))

    def test_ties(self):
        keeper = Keeper(DRAWER, moved(DRAWER, 0, 1))
        self.assert_raises_unchanged(NotHeld((1, "h")), keeper, keeper.tie, 1, "h", 0, "h")
        self.assert_raises_unchanged(NotHeld((1, "zz")), keeper, keeper.tie, 1, "zz", 0, "zz")
        keeper.do(0, "add")
        self.assert_raises_unchanged(NotHeld((1, "h")), keeper, keeper.tie, 0, "h", 1, "h")
        self.assert_raises_unchanged(NotHeld((0, "")), keeper, keeper.tie, 0, "", 1, "h")
        self.assert_raises_unchanged(Ring(("a", "a")), keeper, keeper.tie, 0, "h", 0, "h")
        keeper.do(1, "add")
        keeper.tie(0, "h", 1, "h")
        self.assertEqual(keeper.store.ahead_of("a"), ("c",))
        keeper.tie(0, "h", 1, "h")
        self.assertEqual(keeper.store.ties, (("a", "c"), ("b", "a"), ("d", "c")))
        self.assert_raises_unchanged(Ring(("c", "a")), keeper, keeper.tie, 1, "h", 0, "h")
        keeper.write("c")
        # What a handle holds waits no more.
        self.assertEqual(keeper.held, ((0, "h", "a"),))
        self.assert_raises_unchanged(NotHeld((1, "h")), keeper, keeper.tie, 0, "h", 1, "h")
        self.assert_raises_unchanged(NotHeld((1, "h")), keeper, keeper.tie, 1, "h", 0, "h")

    def test_after_means_what_still_waits(self):
        module = Module(
            ((X, 2, 0), (Y, 2, 0)), ("h",), (("left", 1, (("put", ((X, 1),), (), "h"),)), ("right", 1, (("put", ((Y, 1),), ("h",), None),))),
            (("same", 0, 0), ()))
        keeper = Keeper(module)
        keeper.do(0, "left")
        keeper.do(0, "right")
        self.assertEqual(keeper.store.ties, (("b", "a"),))
        keeper.write("a")
        keeper.do(0, "right")
        self.assertEqual(keeper.store.ties, (("c", "b"),))
        keeper.do(0, "left")
        keeper.do(0, "right")
        self.assertEqual(keeper.store.ties, (("c", "b"), ("e", "c"), ("e", "d")))

    def test_writes(self):
        keeper = Keeper(DRAWER)
        for names in ((), ("a",), ("a", "b")):
            self.assert_raises_unchanged(NoWrite(names), keeper, keeper.write, *names)
        keeper.do(0, "add")
        for names in (("b",), ("a", "b"), (), ("a", "zz"), ("b", "b")):
            self.assert_raises_unchanged(NoWrite(names), keeper, keeper.write, *names)
        self.assertIsNone(keeper.write("a", "a"))
        self.assertEqual((keeper.store.names, keeper.store.disk, keeper.made), (("b",), ((X, 0), (Y, 1)), 2))
        keeper.write("b")
        self.assertEqual((keeper.store, keeper.made), (Store.empty(((X, 1), (Y, 1))), 2))
        keeper.do(0, "add")
        self.assertEqual(keeper.store.names, ("c", "d"))

    def test_errors_of_edits_in_their_order(self):
        keeper = Keeper(DRAWER, LOOSE_FAR)
        keeper.do(0, "add")
        keeper.do(0, "add")
        store = keeper.store
        kept = ("c",)
        other = store.tied("b", "c")
        # Each edit has this fault and all later ones.
        self.assert_raises_unchanged(NoEdit("store"), keeper, keeper.edit, Edit(BARE, BARE))
        self.assert_raises_unchanged(NoEdit("store"), keeper, keeper.edit, Edit(other, other, ()))
        noticed = renamed(Store(store.disk, store.changes[1:], store.ties[2:]), "b", "new")
        self.assert_raises_unchanged(NoEdit("kept"), keeper, keeper.edit, Edit(store, noticed, ()))
        self.assert_raises_unchanged(NoEdit("kept"), keeper, keeper.edit, Edit(store, store, ("a", "b", "d")))
        self.assert_raises_unchanged(NoEdit("name"), keeper, keeper.edit, Edit(store, noticed, kept))
        self.assert_raises_unchanged(NoEdit("name"), keeper, keeper.edit, Edit(store, renamed(store, "b", "abcdefg"), kept))
        free = Store(store.disk, store.changes, (("c", "a"), ("d", "b")))
        error = self.assert_raises_unchanged(Noticed(None), keeper, keeper.edit, Edit(store, free, kept))
        self.assertIs(stranger_holds(Edit(store, free, kept), error.stranger), True)
        self.assertEqual(error.word, "noticed")
        good = Edit(store, renamed(store, "b", "abcdefgh"), kept)
        self.assertEqual(keeper.edit(good), least_table(good))
        self.assertEqual(keeper.store.names, ("a", "abcdefgh", "c", "d"))

    def test_names_that_were_there_before(self):
        keeper = Keeper(DRAWER)
        keeper.do(0, "add")
        keeper.do(0, "add")

        def edit(old, new):
            return Edit(keeper.store, renamed(keeper.store, old, new), ("c",))

        keeper.edit(edit("b", "abcdefgh"))
        keeper.edit(edit("abcdefgh", "bcdefghi"))
        self.assert_raises_unchanged(NoEdit("name"), keeper, keeper.edit, edit("bcdefghi", "abcdefgh"))
        self.assert_raises_unchanged(NoEdit("name"), keeper, keeper.edit, edit("bcdefghi", "b"))
        keeper.edit(edit("a", "zzzzzzzz"))
        keeper.edit(edit("zzzzzzzz", "yyyyyyyy"))
        # An edit that is taken back has given no name.
        try:
            with keeper.trial():
                keeper.edit(edit("yyyyyyyy", "xxxxxxxx"))
                raise KeyError
        except KeyError:
            pass
        keeper.edit(edit("yyyyyyyy", "xxxxxxxx"))
        keeper.do(0, "add")
        self.assertEqual(keeper.store.names, ("bcdefghi", "c", "d", "e", "f", "xxxxxxxx"))

    def test_too_many_lots(self):
        cells = tuple(((at, 0), 2, 0) for at in range(9))
        puts = tuple(("put", ((cell, 1),), (), None) for cell, _, _ in cells)
        keeper = Keeper(Module(cells, (), (("add", 1, puts),), (("same", 0, 0), ())))
        keeper.do(0, "add")
        edit = Edit(keeper.store, keeper.store)
        self.assert_raises_unchanged(TooMany(500), keeper, keeper.edit, edit)
        short = Edit(keeper.store, renamed(keeper.store, "a", "z"))
        self.assert_raises_unchanged(NoEdit("name"), keeper, keeper.edit, short)
        noticed = Edit(keeper.store, Store(keeper.store.disk, keeper.store.changes[1:], ()))
        self.assert_raises_unchanged(Noticed(None), keeper, keeper.edit, noticed)
        tied = Edit(keeper.store, keeper.store.tied("b", "a"))
        self.assertEqual(len(keeper.edit(tied)), 384)

    def test_broken(self):
        keeper = Keeper(LOOSE, moved(LOOSE, 0, 1), moved(DRAWER, 0, 2))
        for at in range(3):
            keeper.do(at, "add")
        expected = [(at, lot) for at, own in ((0, "b"), (1, "d")) for count in range(7)
                    for lot in itertools.combinations("abcdef", count)
                    if own in lot and chr(ord(own) - 1) not in lot and ("f" not in lot or "e" in lot)]
        self.assertEqual(list(keeper.broken()), expected)
        self.assertEqual(list(itertools.islice(keeper.broken(), 3)), expected[:3])
        self.assertEqual(next(iter(keeper.broken())), (0, ("b",)))
        keeper.tie(0, "h", 2, "h")
        self.assertNotIn((0, ("a", "d")), list(keeper.broken()))
        self.assertEqual(list(Keeper(DRAWER).broken()), [])

    def test_what_was_shown_counts(self):
        module = Module(((X, 3, 0),), (), (("up", 1, (("put", ((X, ("plus", ("cell", X), 1)),), (), None),) * 2),), (("same", 0, 0), (("cell", X),)))
        keeper = Keeper(module)
        keeper.do(0, "up")
        self.assertEqual(list(keeper.broken()), [(0, ("a",))])
        keeper.do(0, "up")
        self.assertEqual(list(keeper.broken()), [])


LOOSE_FAR = moved(LOOSE, 5, 5)


class Stop(BaseException):
    """An exception of no usual class."""


class TestTrials(Checked):

    def busy(self):
        keeper = Keeper(DRAWER, moved(LOOSE, 0, 1))
        keeper.do(0, "add")
        return keeper

    def work(self, keeper):
        keeper.do(1, "add")
        keeper.do(0, "add")
        keeper.tie(1, "h", 0, "h")
        keeper.write("a")
        keeper.edit(Edit(keeper.store, renamed(keeper.store, "b", "abcdefgh"), tuple(sorted(name for _, _, name in keeper.held))))

    def test_an_error_in_the_block(self):
        for error in (ValueError, Stop, KeyboardInterrupt, GeneratorExit, HeldError, StopIteration):
            keeper = self.busy()
            before, expected = self.state(keeper), self.busy()
            with self.assertRaises(error):
                with keeper.trial() as given:
                    self.assertIs(given, keeper)
                    self.work(keeper)
                    self.assertNotEqual(self.state(keeper), before)
                    raise error
            self.assertEqual(self.state(keeper), before)
            # What comes later is the same, too.
            for other in (keeper, expected):
                self.work(other)
                other.do(0, "add")
            self.assertEqual(self.state(keeper), self.state(expected))

    def test_no_error_or_one_behind_the_block(self):
        keeper, other = self.busy(), self.busy()
        with self.assertRaises(ValueError):
            with keeper.trial():
                self.work(keeper)
            raise ValueError
        self.work(other)
        self.assertEqual(self.state(keeper), self.state(other))

    def test_when_the_block_began(self):
        keeper, other = self.busy(), self.busy()
        trial = keeper.trial()
        self.work(keeper)
        self.work(other)
        with self.assertRaises(Stop):
            with trial:
                keeper.do(1, "add")
                raise Stop
        self.assertEqual(self.state(keeper), self.state(other))

    def test_nested_trials(self):
        for inner, outer in itertools.product((False, True), repeat=2):
            keeper, other = self.busy(), self.busy()
            before = self.state(keeper)
            try:
                with keeper.trial():
                    self.work(keeper)
                    try:
                        with keeper.trial() as given:
                            given.do(0, "add")
                            given.write("e")
                            if inner:
                                raise Stop
                    except Stop:
                        pass
                    if outer:
                        raise KeyError
            except KeyError:
                pass
            if outer:
                self.assertEqual(self.state(keeper), before)
                continue
            self.work(other)
            if not inner:
                other.do(0, "add")
                other.write("e")
            self.assertEqual(self.state(keeper), self.state(other))

    def test_an_error_that_leaves_both(self):
        keeper = self.busy()
        before = self.state(keeper)
        with self.assertRaises(Stop):
            with keeper.trial(), keeper.trial():
                self.work(keeper)
                raise Stop
        self.assertEqual(self.state(keeper), before)

    def test_errors_of_the_keeper_that_are_caught_inside(self):
        keeper, other = self.busy(), self.busy()
        with keeper.trial():
            keeper.do(1, "add")
            with self.assertRaises(NoWrite):
                keeper.write("zz")
        other.do(1, "add")
        self.assertEqual(self.state(keeper), self.state(other))

    def test_trying(self):
        keeper, other = self.busy(), self.busy()
        self.assertEqual(keeper.trying(lambda given: (self.work(given), given is keeper, 7)), (None, True, 7))
        self.work(other)
        self.assertEqual(self.state(keeper), self.state(other))

        def fails(given):
            given.do(1, "add")
            raise Stop

        self.assertRaises(Stop, keeper.trying, fails)
        self.assertRaises(Stop, keeper.trying, action=fails)
        self.assertEqual(self.state(keeper), self.state(other))
        self.assertIsNone(keeper.trying(action=lambda given: None))


class TestAttempt(Checked):

    def deeds(self):
        return (("do", 0, "add", 0), ("do", 1, "add", 0), ("tie", 1, "h", 0, "h"), ("write", ("a",)), ("do", 0, "add", 0))

    def test_all(self):
        keeper, other = Keeper(DRAWER, LOOSE_FAR), Keeper(DRAWER, LOOSE_FAR)
        self.assertIsNone(keeper.attempt(*self.deeds()))
        for deed in self.deeds():
            other.attempt(deed)
        self.assertEqual(self.state(keeper), self.state(other))
        third = Keeper(DRAWER, LOOSE_FAR)
        third.do(0, "add", 0)
        third.do(1, "add", 0)
        third.tie(1, "h", 0, "h")
        third.write("a")
        third.do(0, "add", 0)
        self.assertEqual(self.state(keeper), self.state(third))
        self.assertIsNone(keeper.attempt())
        edit = Edit(keeper.store, renamed(keeper.store, "b", "abcdefgh"), tuple(sorted(name for _, _, name in keeper.held)))
        keeper.attempt(("edit", edit), ("do", 0, "add", 0))
        self.assertIn("abcdefgh", keeper.store)

    def test_none(self):
        wrong = (
            (("write", ("zz",)), NoWrite(("zz",))), (("write", ()), NoWrite(())), (("tie", 1, "x", 0, "h"), NotHeld((1, "x"))),
            (("edit", Edit(BARE, BARE)), NoEdit("store")))
        for at in range(len(self.deeds()) + 1):
            for deed, error in wrong:
                for start in ((), (("do", 0, "add", 0),)):
                    keeper, other = Keeper(DRAWER, LOOSE_FAR), Keeper(DRAWER, LOOSE_FAR)
                    keeper.attempt(*start)
                    other.attempt(*start)
                    deeds = self.deeds()[:at] + (deed,) + self.deeds()[at:]
                    if start and at > 3:
                        # The first change is written in another place of this row, so the names differ.
                        continue
                    self.assert_raises_unchanged(error, keeper, keeper.attempt, *deeds)
                    keeper.do(1, "add")
                    other.do(1, "add")
                    self.assertEqual(self.state(keeper), self.state(other))

    def test_an_edit_that_is_noticed_at_the_end(self):
        keeper = Keeper(DRAWER)
        keeper.attempt(("do", 0, "add", 0), ("do", 0, "add", 0))
        noticed = Edit(keeper.store, Store(keeper.store.disk, keeper.store.changes, (("c", "a"), ("d", "b"))), ("c",))
        good = Edit(keeper.store, keeper.store, ("c",))
        self.assert_raises_unchanged(Noticed(None), keeper, keeper.attempt, ("edit", good), ("edit", noticed))
        self.assert_raises_unchanged(NoEdit("store"), keeper, keeper.attempt, ("write", ("a",)), ("edit", good))
