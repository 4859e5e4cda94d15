"""Contexts: what strangers may have waiting beside the changes of a store."""

from heldparts.errors import NoContext
from heldparts.forms import are_changes, are_names_in, are_ties, is_content
from heldparts.frames import earlier_places
from heldparts.orders import places_in, reached
from heldparts.stores import Store


def shared_rows(changes):
    """For each cell that several changes write their indexes."""
    found = {}
    for at, (_, writes) in enumerate(changes):
        for cell, _ in writes:
            found.setdefault(cell, []).append(at)
    return [found[cell] for cell in found if len(found[cell]) > 1]


def rows_are_tied(changes, ties):
    """Whether of two added changes that write the same cell one comes behind the other by ties of added ones alone."""
    cells = [cell for _, writes in changes for cell, _ in writes]
    if len({cell for cell in cells}) == len(cells):
        return True
    places = {name: at for at, (name, _) in enumerate(changes)}
    own = [(later, earlier) for later, earlier in ties if later in places and earlier in places]
    masks = reached(earlier_places(places, own))
    for row in shared_rows(changes):
        there = 0
        for place in row:
            # Of those that do not stand before it each must stand behind it.
            others = places_in(there & ~masks[place])
            if not all([(masks[other] >> place) & 1 == 1 for other in others]):
                return False
            there = there | (1 << place)
    return True


def are_good_ties(ties, added):
    """Whether the two names of each tie are distinct, and at least one of them is added."""
    for later, earlier in ties:
        if later == earlier or (later not in added and earlier not in added):
            return False
    return True


class Context:
    """Cells and changes that are added to a store, and ties of these changes."""

    def __init__(self, disk=(), changes=(), ties=()):
        if not is_content(disk):
            raise NoContext("disk")
        if not are_changes(changes):
            raise NoContext("changes")
        if not are_ties(ties):
            raise NoContext("ties")
        self.disk = disk
        self.changes = changes
        self.ties = ties
        self.parts = (disk, changes, ties)
        own = {cell: True for cell, _ in disk}
        added = {name: True for name, _ in changes}
        # What the added changes ask of a store, and whether there can be a store that the context suits.
        self.cells_asked = [cell for _, writes in changes for cell, _ in writes if cell not in own]
        self.names_asked = [name for tie in ties for name in tie if name not in added]
        self.is_sound = are_good_ties(ties, added) and rows_are_tied(changes, ties)

    @classmethod
    def nothing(cls):
        """The context without cells and changes."""
        return cls((), (), ())

    def __len__(self):
        return len(self.changes)

    def __eq__(self, other):
        return isinstance(other, Context) and self.parts == other.parts

    def suits(self, store, kept):
        """Whether it suits a store and kept names."""
        if not are_names_in(kept, store):
            return False
        return self.suits_kept(store, kept) and self.suits_names(store)

    def suits_kept(self, store, kept):
        """Whether it suits the cells of a store and kept names of it."""
        if not self.is_sound:
            return False
        lines = store.frame.lines
        for cell, _ in self.disk:
            if cell in lines:
                return False
        for cell in self.cells_asked:
            if cell not in lines:
                return False
        for name in self.names_asked:
            if name not in kept:
                return False
        return True

    def suits_names(self, store):
        """Whether none of the added names is a name of a store."""
        places = store.frame.places
        for name, _ in self.changes:
            if name in places:
                return False
        return True

    def parts_around(self, store):
        """The disk, the changes and the ties of a store in this context, which suits it."""
        frame = store.frame
        ends = []
        for name, writes in self.changes:
            for cell, _ in writes:
                if cell in frame.lines:
                    place = frame.lines[cell][-1][0]
                    if place >= 0:
                        # The last one of a row stands behind the whole row.
                        ends.append((name, frame.names[~place]))
        disk = tuple(sorted(store.disk + self.disk))
        return disk, store.changes + self.changes, store.ties + self.ties + tuple(ends)

    def around(self, store, kept):
        """The store in this context."""
        if not self.suits(store, kept):
            raise NoContext("suits")
        disk, changes, ties = self.parts_around(store)
        return Store(disk, changes, ties)
