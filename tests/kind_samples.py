"""Random stores for the kinds of edits, and the stores after them, computed from the order of all changes."""

import random

from heldparts.stores import Store
from tests.edit_samples import random_store
from tests.model import pairs_before

GREAT = 10 ** 38 + 7


def with_values(store, values):
    """The store with other values in place of 0 and 1."""
    def changed(content):
        return tuple((cell, values[value]) for cell, value in content)

    return Store(
        changed(store.disk), tuple((name, changed(writes)) for name, writes in store.changes), store.ties)


def sample(seed, most=7):
    """A store with kept names, from none to all of its names."""
    source = random.Random(seed)
    store = random_store(source, most, cells=4, least=source.choice([0, 2, 4, min(6, most)]))
    if seed % 3 == 0:
        store = with_values(store, source.choice([(0, GREAT), (-GREAT, GREAT), (GREAT, 0)]))
    share = source.choice([0, 0.2, 0.4, 1])
    return store, tuple(name for name in store.names if source.random() < share)


def block_of(store, name):
    return store.writes(name)[0][0][0]


def pairs_of(store):
    """All (earlier, later) of a store."""
    return pairs_before(store.names, store.ties)


def parts_after(store, changes, pairs):
    """The disk, changes and ties of a store with this order."""
    return store.disk, tuple(sorted(changes)), tuple((later, earlier) for earlier, later in sorted(pairs))


def after_join(store, first, second):
    pairs = pairs_of(store)
    order = (first, second) if (first, second) in pairs else (second, first)
    writes = dict(store.writes(order[0]))
    writes.update(dict(store.writes(order[1])))
    changes = [change for change in store.changes if change[0] not in (first, second)]
    changes.append((first, tuple(sorted(writes.items()))))
    renamed = {tuple(first if name == second else name for name in pair) for pair in pairs}
    return parts_after(store, changes, pairs_before(store.names, [(b, a) for a, b in renamed if a != b]))


def after_tie(store, later, earlier):
    ties = [(last, first) for first, last in pairs_of(store)] + [(later, earlier)]
    return parts_after(store, store.changes, pairs_before(store.names, ties))


def after_untie(store, later, earlier):
    ties = [tie for tie in store.ties if tie != (later, earlier)]
    for cell in store.cells:
        row = store.row(cell)
        ties += [(row[last], row[first]) for last in range(len(row)) for first in range(last)]
    return parts_after(store, store.changes, pairs_before(store.names, ties))


def after_drop(store, name):
    changes = [change for change in store.changes if change[0] != name]
    return parts_after(store, changes, {pair for pair in pairs_of(store) if name not in pair})


def after_split(store, name, new, cells):
    changes = [change for change in store.changes if change[0] != name]
    changes.append((name, tuple(part for part in store.writes(name) if part[0] not in cells)))
    changes.append((new, tuple(part for part in store.writes(name) if part[0] in cells)))
    pairs = pairs_of(store)
    more = {tuple(new if other == name else other for other in pair) for pair in pairs if name in pair}
    return parts_after(store, changes, pairs | more)


def is_between(store, first, second):
    """Whether a change stands between two others, whichever of both stands before the other one."""
    pairs = pairs_of(store)
    return any({(one, name), (name, two)} <= pairs
               for one, two in ((first, second), (second, first)) for name in store.names)
