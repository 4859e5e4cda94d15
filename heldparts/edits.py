"""Edits: one store in the place of another, and some changes that others may name."""

from heldparts.answers import least_lots
from heldparts.codes import Coder, Names, values_in
from heldparts.errors import NoContext, NoEdit
from heldparts.forms import are_names_in, merged
from heldparts.witnesses import lot_stranger, ring_stranger


def shown_pairs(store, kept):
    """The pairs of kept changes, and of a kept change and a cell, of which the first shows before the second."""
    frame = store.frame
    places = [(name, frame.places[name]) for name in kept]
    ahead = [(name, frame.masks[place]) for name, place in places]
    ends = [(cell, frame.upto[frame.lines[cell][-1][0]]) for cell in store.cells]
    changes = [(name, other) for name, place in places for other, mask in ahead if (mask >> place) & 1 == 1]
    cells = [(name, cell) for name, place in places for cell, mask in ends if (mask >> place) & 1 == 1]
    return tuple(changes), tuple(cells)


class Edit:
    """Two stores with the same disk, and the names of changes of both that others may name."""

    def __init__(self, before, after, kept=()):
        if before.disk != after.disk:
            raise NoEdit("disk")
        if not (are_names_in(kept, before) and are_names_in(kept, after)):
            raise NoEdit("kept")
        if not all([before.writes(name) == after.writes(name) for name in kept]):
            raise NoEdit("kept")
        self.before = before
        self.after = after
        self.kept = kept

    def __eq__(self, other):
        if not isinstance(other, Edit):
            return False
        return self.before == other.before and self.after == other.after and self.kept == other.kept

    def __or__(self, other):
        if not isinstance(other, Edit):
            return NotImplemented
        return Edit(self.before | other.before, self.after | other.after, merged(self.kept, other.kept))

    def rule(self):
        """True if both stores are equal, otherwise None."""
        return True if self.before == self.after else None

    def examine(self, *, limit=500):
        """The least table, or a stranger."""
        before, after = self.before.frame, self.after.frame
        coder = Coder(before.cells, self.kept, values_in(before, after))
        codes = coder.codes(after, limit)
        if self.before.memory != self.after.memory:
            return ("memory",)
        shown, others = shown_pairs(self.before, self.kept), shown_pairs(self.after, self.kept)
        if shown != others:
            # With unlike shown pairs there is no table: a lot lacks a kept name that the other store asks for.
            return ring_stranger(self.before, self.after, shown, others)
        codes = sorted(codes)
        masks = least_lots(coder, before, codes)
        names = Names(after.names)
        found = names.of_codes(codes[:len(masks)], coder.top)
        if masks[-1] is None:
            return lot_stranger(self.before, self.after, self.kept, found[-1], coder.done_in(codes[len(masks) - 1]))
        had = names if before.names == after.names else Names(before.names)
        return "table", tuple(zip(found, had.tuples(masks)))

    def then(self, other):
        """This edit and another one that follows it, as one edit."""
        if self.after != other.before:
            raise NoEdit("store")
        return Edit(self.before, other.after, tuple([name for name in self.kept if name in other.kept]))

    def within(self, context):
        """This edit within a context."""
        if not (context.suits(self.before, self.kept) and context.suits(self.after, self.kept)):
            raise NoContext("suits")
        before = context.around(self.before, self.kept)
        after = context.around(self.after, self.kept)
        return Edit(before, after, merged(self.kept, tuple([name for name, _ in context.changes])))
