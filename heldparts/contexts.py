"""Contexts: what strangers may have waiting beside the changes of a store."""

from heldparts.errors import NoContext
from heldparts.forms import are_changes, are_names_in, are_ties, is_content
from heldparts.frames import earlier_places
from heldparts.orders import reached
from heldparts.stores import Store


def shared_rows(changes):
    """For each cell that several changes write their indexes."""
    found = {}
    for at, (_, writes) in enumerate(changes):
        for cell, _ in writes:
            found.setdefault(cell, []).append(at)
    return [found[cell] for cell in found if len(found[cell]) > 1]


def rows_are_tied(changes, ties):
    """Whether of two added changes that write the same cell one comes behind the other by ties of added ones alone."""
    rows = shared_rows(changes)
    if len(rows) == 0:
        return True
    places = {name: at for at, (name, _) in enumerate(changes)}
    own = [(later, earlier) for later, earlier in ties if later in places and earlier in places]
    masks = reached(earlier_places(places, own))
    for row in rows:
        for at, place in enumerate(row):
            if not all([((masks[place] >> other) | (masks[other] >> place)) & 1 == 1 for other in row[:at]]):
                return False
    return True


class Context:
    """Cells and changes that are added to a store, and ties of these changes."""

    def __init__(self, disk=(), changes=(), ties=()):
        if not is_content(disk):
            raise NoContext("disk")
        if not are_changes(changes):
            raise NoContext("changes")
        if not are_ties(ties):
            raise NoContext("ties")
        self.disk = disk
        self.changes = changes
        self.ties = ties
        self.parts = (disk, changes, ties)
        self._has_rows = rows_are_tied(changes, ties)

    @classmethod
    def nothing(cls):
        """The context without cells and changes."""
        return cls((), (), ())

    def __len__(self):
        return len(self.changes)

    def __eq__(self, other):
        return isinstance(other, Context) and self.parts == other.parts

    def suits(self, store, kept):
        """Whether it suits a store and kept names."""
        if not are_names_in(kept, store):
            return False
        if not (self._is_apart_from(store) and self._writes_known_cells(store)):
            return False
        return self._has_good_ties(kept) and self._has_rows

    def _is_apart_from(self, store):
        known = {cell: True for cell in store.cells}
        if any([cell in known for cell, _ in self.disk]):
            return False
        return not any([name in store for name, _ in self.changes])

    def _writes_known_cells(self, store):
        known = {cell: True for cell in store.cells}
        for cell, _ in self.disk:
            known[cell] = True
        return all([cell in known for _, writes in self.changes for cell, _ in writes])

    def _has_good_ties(self, kept):
        added = {name: True for name, _ in self.changes}
        for later, earlier in self.ties:
            if later == earlier or (later not in added and earlier not in added):
                return False
            if not all([name in added or name in kept for name in (later, earlier)]):
                return False
        return True

    def around(self, store, kept):
        """The store in this context."""
        if not self.suits(store, kept):
            raise NoContext("suits")
        ends = []
        for name, writes in self.changes:
            for cell, _ in writes:
                if cell in store.cells and len(store.row(cell)) > 0:
                    # The last one of a row stands behind the whole row.
                    ends.append((name, store.row(cell)[-1]))
        disk = tuple(sorted(store.disk + self.disk))
        return Store(disk, store.changes + self.changes, store.ties + self.ties + tuple(ends))
