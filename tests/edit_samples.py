"""Random edits, contexts and wishes, with many seeds, so that some of each kind are among them."""

import random

from heldparts.edits import Edit, shown_pairs
from heldparts.errors import NoStore
from heldparts.stores import Store
from tests.model import pairs_before
from tests.samples import random_parts

NAMES = ("a", "aa", "ab", "b", "c", "d", "e", "f", "ka", "z")


def random_store(source, most=6, cells=4, least=0):
    """A store with few cells, few values and some ties."""
    places = sorted(source.sample([(0, 0), (0, 1), (1, 0), (1, 1), (2, 0)], source.randint(1, cells)))
    store = Store.empty(tuple((cell, source.randint(0, 1)) for cell in places))
    names = source.sample(NAMES, source.randint(least, most))
    for at, name in enumerate(names):
        block = source.choice(places)[0]
        near = [cell for cell in places if cell[0] == block]
        written = sorted(source.sample(near, source.randint(1, len(near))))
        after = [other for other in names[:at] if source.random() < 0.25]
        store = store.with_change(name, tuple((cell, source.randint(0, 1)) for cell in written), *after)
    return store


def all_ties(store):
    """All (later, earlier) of a store."""
    return [(later, earlier) for earlier, later in pairs_before(store.names, store.ties)]


def dropped(store, name):
    """The store without a change."""
    return Store(
        store.disk, tuple(change for change in store.changes if change[0] != name),
        tuple(tie for tie in all_ties(store) if name not in tie))


def joined(store, first, second):
    """The store in which the second of two changes of a block is part of the first one."""
    last, other = (second, first) if store.is_before(first, second) else (first, second)
    writes = dict(store.writes(other))
    writes.update(store.writes(last))
    changes = [change for change in store.changes if change[0] not in (first, second)]
    ties = [tuple(first if name == second else name for name in tie) for tie in all_ties(store)]
    return Store(
        store.disk, tuple(changes) + ((first, tuple(sorted(writes.items()))),),
        tuple(tie for tie in ties if tie[0] != tie[1]))


def untied(store, tie):
    """The store without one of its ties."""
    return Store(store.disk, store.changes, tuple(other for other in store.ties if other != tie))


def changed(source, store, kept, way):
    """A store that another one may be edited to, in one of some ways, or the same one."""
    free = [name for name in store.names if name not in kept]
    if way == "drop" and free:
        return dropped(store, source.choice(free))
    if way == "join" and len(free) > 1:
        first, second = source.sample(free, 2)
        if store.writes(first)[0][0][0] == store.writes(second)[0][0][0]:
            return joined(store, first, second)
    if way == "tie" and len(store) > 1:
        return store.tied(*source.sample(store.names, 2))
    if way == "untie" and store.ties:
        return untied(store, source.choice(store.ties))
    if way == "add" and store.cells:
        name = source.choice([name for name in NAMES + ("m", "ac") if name not in store])
        cell, value = source.choice(store.memory)
        return store.with_change(name, ((cell, value),))
    if way == "write" and free:
        name = source.choice(free)
        writes = tuple((cell, source.randint(0, 1)) for cell, _ in store.writes(name))
        changes = tuple(change for change in store.changes if change[0] != name)
        return Store(store.disk, changes + ((name, writes),), store.ties)
    return store


def random_edit(seed, most=5):
    """An edit of a store by some small steps."""
    source = random.Random(seed)
    store = random_store(source, most, cells=source.choice([1, 2, 4, 4]), least=source.choice([0, 2, 3, 3]))
    share = source.choice([0.2, 0.2, 0.5])
    kept = tuple(name for name in store.names if source.random() < share)
    after = store
    for _ in range(source.choice([1, 3, 6])):
        way = source.choice(["drop", "drop", "join", "join", "tie", "untie", "untie", "write", "add"])
        try:
            after = changed(source, after, kept, way)
        except NoStore:
            continue
    return Edit(store, after, kept)


def random_context(source, edit, most=3):
    """A context that mostly suits an edit: the tuple of its three parts."""
    cells = [cell for cell in ((0, 2), (2, 1), (3, 0)) if source.random() < 0.4]
    pool = ["ac", "ca", "k", "l", "y"] + list(NAMES[:1] if source.random() < 0.1 else ())
    names = sorted(source.sample(pool, source.randint(0, most)))
    known = cells + list(edit.before.cells)
    changes, last, ties = [], {}, set()
    share = source.choice([0.1, 0.2, 0.6])
    for name in names:
        block = source.choice(known)[0] if known else None
        near = [cell for cell in known if cell[0] == block]
        if not near:
            continue
        written = sorted(source.sample(near, source.randint(1, len(near))))
        changes.append((name, tuple((cell, source.randint(0, 2)) for cell in written)))
        ties.update((name, last[cell]) for cell in written if cell in last)
        last.update({cell: name for cell in written})
        for other in edit.kept + tuple(name for name, _ in changes[:-1]):
            if source.random() < share:
                ties.add(source.choice([(name, other), (other, name)]) if other in edit.kept else (name, other))
    return tuple((cell, 0) for cell in cells), tuple(changes), tuple(sorted(ties))


def ring_context(source, edit):
    """A context that closes a ring with each store in which one kept change shows before something, or None."""
    shown = shown_pairs(edit.before, edit.kept), shown_pairs(edit.after, edit.kept)
    pairs = [pair for part in (0, 1) for both in (shown, shown[::-1])
             for pair in both[0][part] if pair not in both[1][part]]
    pairs = pairs or list(shown[0][0] + shown[0][1])
    if not pairs:
        return None
    first, second = source.choice(pairs)
    names = source.sample(["ac", "ca", "k", "l", "y"], source.randint(1, 3))
    disk = tuple(((7, at), 0) for at in range(len(names)))
    changes = {name: ((cell, 1),) for name, (cell, _) in zip(names, disk)}
    ties = list(zip((first,) + tuple(names), names))
    if isinstance(second, str):
        ties.append((names[-1], second))
    else:
        changes[names[-1]] = ((second, 5),)
    return disk, tuple(sorted(changes.items())), tuple(sorted(ties))


def random_wish(source, store):
    """A wish: seen values, names to have, names to lack, cells to be done."""
    def some(things, share):
        return tuple(thing for thing in things if source.random() < share)

    share = source.choice([0, 0.2, 0.5, 1])
    seen = tuple((cell, source.randint(0, 2) if source.random() < 0.2 else source.choice(store.row_values(cell)))
                 for cell in some(store.cells, share))
    return seen, some(store.names, share / 3), some(store.names, share / 4), some(store.cells, share / 3)


def store_with(seed):
    """A store of none to seven changes with any ties."""
    return Store(*random_parts(seed))
