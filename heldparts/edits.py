"""Edits: one store in the place of another, and some changes that others may name."""

from heldparts.errors import NoContext, NoEdit
from heldparts.fitting import least_fit
from heldparts.forms import are_names_in, merged
from heldparts.lattices import Lattice, lot_masks_within
from heldparts.witnesses import lot_stranger, ring_stranger


def shows_before_cell(store, name, cell):
    """Whether a change writes a cell or stands before one that does."""
    row = store.row(cell)
    return len(row) > 0 and (name == row[-1] or store.is_before(name, row[-1]))


def shown_pairs(store, kept):
    """The pairs of kept changes, and of a kept change and a cell, of which the first shows before the second."""
    changes = [(name, other) for name in kept for other in kept if store.is_before(name, other)]
    cells = [(name, cell) for name in kept for cell in store.cells if shows_before_cell(store, name, cell)]
    return tuple(changes), tuple(cells)


class Edit:
    """Two stores with the same disk, and the names of changes of both that others may name."""

    def __init__(self, before, after, kept=()):
        if before.disk != after.disk:
            raise NoEdit("disk")
        if not (are_names_in(kept, before) and are_names_in(kept, after)):
            raise NoEdit("kept")
        if not all([before.writes(name) == after.writes(name) for name in kept]):
            raise NoEdit("kept")
        self.before = before
        self.after = after
        self.kept = kept

    def __eq__(self, other):
        if not isinstance(other, Edit):
            return False
        return self.before == other.before and self.after == other.after and self.kept == other.kept

    def __or__(self, other):
        if not isinstance(other, Edit):
            return NotImplemented
        return Edit(self.before | other.before, self.after | other.after, merged(self.kept, other.kept))

    def rule(self):
        """True if both stores are equal, otherwise None."""
        return True if self.before == self.after else None

    def examine(self, *, limit=500):
        """The least table, or a stranger."""
        lattice = Lattice(self.after)
        found = lot_masks_within(lattice, limit)
        if self.before.memory != self.after.memory:
            return ("memory",)
        shown, others = shown_pairs(self.before, self.kept), shown_pairs(self.after, self.kept)
        if shown != others:
            # With unlike shown pairs there is no table: a lot lacks a kept name that the other store asks for.
            return ring_stranger(self.before, self.after, shown, others)
        table = []
        waiting = Lattice(self.before)
        for mask in found:
            lot, seen, done = lattice.names_in(mask), lattice.content(mask), lattice.done_cells(mask)
            has = [name for name in self.kept if name in lot]
            lacks = [name for name in self.kept if name not in lot]
            other = least_fit(waiting, seen, has, lacks, done)
            if other is None:
                return lot_stranger(self.before, self.after, self.kept, lot, done)
            table.append((lot, waiting.names_in(other)))
        return "table", tuple(table)

    def then(self, other):
        """This edit and another one that follows it, as one edit."""
        if self.after != other.before:
            raise NoEdit("store")
        return Edit(self.before, other.after, tuple([name for name in self.kept if name in other.kept]))

    def within(self, context):
        """This edit within a context."""
        if not (context.suits(self.before, self.kept) and context.suits(self.after, self.kept)):
            raise NoContext("suits")
        before = context.around(self.before, self.kept)
        after = context.around(self.after, self.kept)
        return Edit(before, after, merged(self.kept, tuple([name for name, _ in context.changes])))
