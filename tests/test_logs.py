"""Point 31: logs, gone through from a store with kept names."""

import itertools
import random
import unittest

from heldparts.edits import Edit
from heldparts.errors import NoEdit, NoStore, TooMany
from heldparts.forms import is_change, is_name
from heldparts.kinds import Drop, Join, Tie, Untie
from heldparts.logs import audit
from heldparts.lots import lots
from heldparts.stores import Store
from heldparts.strangers import stranger_holds
from tests.kind_samples import sample
from tests.lot_model import model_of, table_choices
from tests.model import left_by, pairs_before
from tests.samples import ANY, BARE, CHAIN, DISK, NOTHING, ONE, X, Y


def add_by_hand(store, change, after):
    """The store with a change behind the rows of its cells, some changes and all before these."""
    name, writes = change
    ties = [(last, first) for first, last in model_of(store).pairs]
    rows = [other for cell, _ in writes for other in model_of(store).rows[cell]]
    return Store(store.disk, store.changes + (change,), tuple(ties) + tuple((name, other) for other in tuple(rows) + after))


def write_by_hand(store, names):
    """The store after some changes were written, or None if they cannot be."""
    pairs = pairs_before(store.names, store.ties)
    blocks = {dict(store.changes)[name][0][0][0] for name in names}
    if len(blocks) != 1 or not all(first in names for first, last in pairs if last in names):
        return None
    changes = tuple(change for change in store.changes if change[0] not in names)
    ties = tuple((last, first) for first, last in pairs if not {first, last} & set(names))
    return Store(left_by(names, store.disk, store.changes, pairs), changes, ties)


def ascends(row):
    return list(row) == sorted(set(row))


def are_names(thing):
    return isinstance(thing, tuple) and all(is_name(part) for part in thing) and ascends(thing)


def step(store, kept, entry):
    """Point 31 word by word: the store and kept names after an entry; None if it fails; an edit if that is noticed."""
    if not isinstance(entry, tuple) or not entry or not isinstance(entry[0], str):
        return None
    word, *parts = entry
    if word == "add" and len(parts) == 2:
        change, after = parts
        good = (is_change(change) and are_names(after) and set(after) <= set(kept) and change[0] not in store.names
                and {cell for cell, _ in change[1]} <= set(store.cells))
        return (add_by_hand(store, change, after), tuple(sorted(kept + (change[0],)))) if good else None
    if len(parts) != 1:
        return None
    if word == "release":
        return (store, tuple(name for name in kept if name != parts[0])) if parts[0] in kept else None
    if word == "write":
        if not are_names(parts[0]) or not set(parts[0]) <= set(store.names):
            return None
        rest = write_by_hand(store, parts[0])
        return None if rest is None else (rest, tuple(name for name in kept if name not in parts[0]))
    if word == "edit" and isinstance(parts[0], Store):
        try:
            edit = Edit(store, parts[0], kept)
        except NoEdit:
            return None
        return (parts[0], kept) if table_choices(edit) is not None else edit
    return None


def expected(store, kept, log):
    """What audit returns, the edit in place of its stranger."""
    for index, entry in enumerate(log):
        told = step(store, kept, entry)
        if told is None:
            return "wrong", index
        if isinstance(told, Edit):
            return "wrong", index, told
        store, kept = told
    return "right", store, kept


def random_entry(source, store, kept):
    """An entry that can often be done."""
    way = source.choice(["add", "add", "add", "release", "write", "write", "edit", "edit"])
    if len(store) > 6:
        way = source.choice(["write", "edit"])
    free = [name for name in store.names if name not in kept]
    if way == "add":
        block = source.choice(store.cells)[0]
        near = [cell for cell in store.cells if cell[0] == block]
        cells = sorted(source.sample(near, source.randint(1, len(near))))
        change = (source.choice("abcdefghijkl"), tuple((cell, source.randint(0, 1)) for cell in cells))
        return ("add", change, tuple(name for name in kept if source.random() < 0.3))
    if way == "release":
        return ("release", source.choice(kept or ("a",)))
    if way == "write":
        if source.random() < 0.3 or not store.names:
            return ("write", tuple(sorted(source.sample(store.names, min(len(store), source.randint(0, 2))))))
        name = source.choice(store.names)
        block = store.writes(name)[0][0][0]
        near = [other for other in store.ahead_of(name) if store.writes(other)[0][0][0] == block]
        return ("write", tuple(sorted(near + [name])))
    try:
        kind = source.choice([Join, Drop, Tie, Untie])
        if kind is Join:
            return ("edit", Join(store, *source.sample(free, 2), kept).after)
        if kind is Drop:
            return ("edit", Drop(store, source.choice(free), kept).after)
        if kind is Tie:
            return ("edit", Tie(store, *source.sample(store.names, 2), kept).after)
        return ("edit", Untie(store, *source.choice(store.ties), kept).after)
    except (NoEdit, NoStore, IndexError, ValueError):
        return ("edit", store)


def right_log(seed, most=60):
    """A store with kept names, and a log of entries that can be done."""
    source = random.Random(seed)
    store, kept = sample(seed + 5000, most=4)
    if not store.cells:
        store, kept = ONE, ("k",)
    log, here = [], (store, kept)
    for _ in range(source.choice([0, 1, 5, 20, most])):
        entry = random_entry(source, *here)
        told = step(*here, entry)
        if told is not None and not isinstance(told, Edit) and len(told[0]) < 8:
            log.append(entry)
            here = told
    return store, kept, tuple(log), here


LOGS = tuple(right_log(seed) for seed in range(40))


def wrong_entries(store, kept):
    """Entries that fail, each in one way."""
    name = (store.names + ("a",))[0]
    free = [other for other in store.names if other not in kept]
    cell = store.cells[0]
    change = ("zz", ((cell, 1),))
    found = [
        (), ("add",), ("add", change), ("add", change, (), ()), ["add", change, ()], ("Add", change, ()), ("", change, ()),
        ("add", list(change), ()), ("add", ("zz", ()), ()), ("add", ("ZZ", ((cell, 1),)), ()), ("add", ("zz", ((cell, True),)), ()),
        ("add", ("zz", (((99, 99), 1),)), ()), ("add", ("zz", ((cell, 1), (cell, 1))), ()), ("add", change, []), ("add", change, None),
        ("add", change, ("nobody",)), ("add", change, "zz"), ("add", change, (None,)), ("add", change, (1,)), ("add", change, ("zz",)),
        ("release",), ("release", "nobody"), ("release", ("a",)), ("release", None), ("release", "a", "a"), ("release", []),
        ("write",), ("write", ()), ("write", []), ("write", ("nobody",)), ("write", "a"), ("write", (None,)), ("write", (name, name)),
        ("write", None), ("write", ({},)), ("write", (), ()), ("edit",), ("edit", None), ("edit", store.text), ("edit", store, store),
        ("edit", NOTHING if store.cells else ONE), ("edit", (store.disk, store.changes, store.ties)), ["edit", store],
        ("edit", Store(tuple((other, value + 1) for other, value in store.disk), (), ())), store, None, "write", 0, {"write": ()}]
    if free:
        found += [("release", free[0]), ("add", change, (free[0],))]
    if store.names:
        found += [("add", (store.names[0], ((cell, 1),)), ())]
    if len(store.names) > 1:
        found += [("write", store.names[1::-1])]
    if len(kept) > 1:
        found += [("add", change, kept[1::-1]), ("add", change, kept[:1] * 2)]
    if kept:
        changes = tuple(part for part in store.changes if part[0] != kept[0])
        ties = tuple(tie for tie in store.ties if kept[0] not in tie)
        try:
            found += [("edit", Store(store.disk, changes, ties))]
            other = tuple((cell, value + 1) for cell, value in store.writes(kept[0]))
            found += [("edit", Store(store.disk, changes + ((kept[0], other),), store.ties))]
        except NoStore:
            pass
    return found


class TestAudit(unittest.TestCase):

    def assert_told(self, told, wanted):
        if wanted[0] == "wrong" and len(wanted) == 3:
            self.assertEqual(told[:2], wanted[:2])
            self.assertEqual(len(told), 3)
            self.assertIs(stranger_holds(wanted[2], told[2]), True)
        else:
            self.assertEqual(told, wanted)
        self.assertIsInstance(told, tuple)

    def test_right_logs(self):
        lengths = set()
        for store, kept, log, (last, names) in LOGS:
            text, told = store.text, repr([entry for entry in log if entry[0] != "edit"])
            lengths.add(len(log))
            self.assertEqual(audit(store, kept, log), ("right", last, names))
            self.assertEqual(audit(limit=2000, log=log, kept=kept, store=store), ("right", last, names))
            half = len(log) // 2
            first = audit(store, kept, log[:half])
            self.assertEqual(audit(first[1], first[2], log[half:]), ("right", last, names))
            self.assertEqual(store.text, text)
            self.assertEqual(repr([entry for entry in log if entry[0] != "edit"]), told)
        self.assertIn(0, lengths)
        self.assertGreater(max(lengths), 30)

    def test_entries_that_fail(self):
        for store, kept, log, (last, names) in LOGS:
            for entry in wrong_entries(last, names):
                self.assertEqual(audit(store, kept, log + (entry,)), ("wrong", len(log)), entry)
            for entry, other in itertools.islice(itertools.permutations(wrong_entries(store, kept), 2), 0, 400, 7):
                self.assertEqual(audit(store, kept, (entry, other) + log), ("wrong", 0))

    def test_any_values(self):
        for store, kept, log, (last, names) in LOGS[:3]:
            for thing in ANY:
                for entry in (thing, (thing,), (thing, thing), ("add", thing, ()), ("release", thing), ("write", thing),
                              (thing, ("zz", ((last.cells[0], 1),)), ()), ("add", ("zz", ((last.cells[0], 1),)), thing), (thing, last)):
                    self.assert_told(audit(store, kept, log + (entry, None)), expected(store, kept, log + (entry, None)))
                if not isinstance(thing, Store):
                    self.assertEqual(audit(store, kept, log + (("edit", thing),)), ("wrong", len(log)))

    def test_random_logs(self):
        kinds = {"right": 0, "wrong": 0, "noticed": 0}
        for seed in range(400):
            source = random.Random(seed)
            store, kept = sample(seed + 9000, most=5)
            if not store.cells:
                continue
            log, here = (), (store, kept)
            for _ in range(4):
                log += (random_entry(source, *here),)
                told = step(*here, log[-1])
                if told is None or isinstance(told, Edit):
                    break
                here = told
            wanted = expected(store, kept, log)
            kinds["noticed" if len(wanted) == 3 and wanted[0] == "wrong" else wanted[0]] += 1
            self.assert_told(audit(store, kept, log), wanted)
        self.assertGreater(min(kinds.values()), 30, kinds)

    def test_names_used_again(self):
        change = ("a", ((X, 5),))
        log = (("write", ("k",)), ("write", ("a", "b")), ("add", change, ()), ("add", ("b", ((Y, 1),)), ("a",)))
        told = audit(ONE, ("k",), log)
        self.assertEqual(told, ("right", Store(((X, 0), (Y, 1)), (change, ("b", ((Y, 1),))), (("b", "a"),)), ("a", "b")))
        self.assertEqual(audit(ONE, ("k",), log[2:]), ("wrong", 0))
        joined = Store(DISK, (("a", ((X, 0),)), ("k", ((Y, 1),))), (("a", "k"),))
        self.assertEqual(audit(ONE, ("k",), (("edit", joined), ("add", ("b", ((Y, 2),)), ("k",))))[0], "right")
        self.assertEqual(audit(ONE, ("k",), (("add", ("b", ((Y, 2),)), ("k",)),)), ("wrong", 0))
        self.assertEqual(audit(ONE, ("k",), (("release", "k"), ("release", "k"))), ("wrong", 1))
        self.assertEqual(audit(ONE, ("k",), (("release", "k"), ("add", ("z", ((X, 1),)), ("k",)))), ("wrong", 1))

    def test_a_noticed_edit(self):
        told = audit(ONE, (), (("write", ("a",)), ("write", ("k",)), ("edit", Store(((X, 1), (Y, 1)), (), ())), None))
        self.assertEqual(told, ("wrong", 2, ("memory",)))
        told = audit(ONE, ("k",), (("edit", Store(DISK, ONE.changes[2:], ())),))
        self.assertEqual((told[:2], told[2][0]), (("wrong", 0), "ring"))
        told = audit(ONE, (), (("edit", BARE),))
        self.assertEqual((told[:2], told[2][0]), (("wrong", 0), "lot"))

    def test_too_many(self):
        count = len(list(lots(CHAIN)))
        same = ("edit", Store.read(CHAIN.text))
        other = ("edit", Store(CHAIN.disk, CHAIN.changes[:4], CHAIN.ties))
        for limit in (0, 1, 2, count - 1, count, count + 1):
            for log, wanted in (
                    ((same,), "right"), ((("release", "e"), same), "right"), ((other,), ("wrong", 0)),
                    ((("release", "e"), same, None), ("wrong", 2))):
                if limit < count and ("release", "e") in log or limit < count and log == (same,):
                    with self.assertRaises(TooMany) as caught:
                        audit(CHAIN, ("e",), log, limit=limit)
                    self.assertEqual(caught.exception.limit, limit)
                else:
                    told = audit(CHAIN, ("e",), log, limit=limit)
                    self.assertEqual(told[0] if wanted == "right" else told, wanted)
            # A noticed edit is no reason, and what comes before or behind an edit does not matter.
            noticed = ("edit", Store(CHAIN.disk, CHAIN.changes[:4], CHAIN.ties))
            for log in ((noticed,), (noticed, None)):
                if limit < count - 5:
                    with self.assertRaises(TooMany):
                        audit(CHAIN, (), log, limit=limit)
            self.assertEqual(audit(CHAIN, (), (None, same), limit=limit), ("wrong", 0))
            self.assertEqual(audit(CHAIN, (), (("release", "a"), same), limit=limit), ("wrong", 0))
            self.assertEqual(audit(CHAIN, (), (("edit", NOTHING), same), limit=limit), ("wrong", 0))
        self.assertEqual(audit(NOTHING, (), (("edit", NOTHING),), limit=1)[0], "right")
        with self.assertRaises(TooMany):
            audit(NOTHING, (), (("edit", NOTHING),), limit=0)

    def test_the_default_limit(self):
        cells = tuple(((0, at), 0) for at in range(9))
        changes = tuple((chr(97 + at), ((cell, 1),)) for at, (cell, _) in enumerate(cells))
        store = Store(cells, changes, ())
        with self.assertRaises(TooMany) as caught:
            audit(store, (), (("edit", store),))
        self.assertEqual(caught.exception.limit, 500)
        self.assertEqual(audit(store, (), (("edit", store),), limit=512)[0], "right")
        self.assertEqual(audit(store, (), (("write", ("a",)), ("edit", store)))[0], "wrong")
