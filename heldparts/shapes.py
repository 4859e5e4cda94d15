"""Shapes: what joins and drops leave of a store, whichever of their names the changes have.

A shape is an ascending tuple of parts `(mask, ahead)`: the changes of the first store that were joined to make one, and
all those that parts before it were made of. A part may have the name of each change that it was made of, whatever the
others are called, and its name is nothing that anybody notices. So each shape is looked at once for many stores.
"""

from heldparts.edits import Edit
from heldparts.orders import places_in
from heldparts.stores import Store


def lowest(mask):
    """The first place in a mask."""
    return (mask & -mask).bit_length() - 1


def joined_parts(shape, first, second):
    """The shape in which two parts are one, or None if a part stands between them."""
    whole = first[0] | second[0]
    ahead = (first[1] | second[1]) & ~whole
    parts = [(whole, ahead)]
    for mask, earlier in shape:
        if mask & whole == 0:
            if earlier & whole == 0:
                parts.append((mask, earlier))
            elif mask & ahead == 0:
                parts.append((mask, earlier | whole | ahead))
            else:
                return None
    return tuple(sorted(parts))


def dropped_part(shape, part):
    """The shape without a part."""
    return tuple([(mask, ahead & ~part[0]) for mask, ahead in shape if mask != part[0]])


class Shapes:
    """The shapes of one store with kept names."""

    def __init__(self, store, kept):
        self.store = store
        self.kept = kept
        self.kept_mask = store.frame.mask_of(kept)
        self.first = tuple([(1 << at, ahead) for at, ahead in enumerate(store.frame.masks)])
        self.blocks = [writes[0][0][0] for _, writes in store.changes[::-1]]
        # What a part writes depends on nothing but the changes that it was made of, as do the bits of its cells.
        self.known = {}

    def written(self, mask):
        """What a part writes, and what can be shown of it: bits for a kept name and for its cells."""
        if mask not in self.known:
            writes = []
            shown = mask & self.kept_mask
            for at, cell in enumerate(self.store.cells):
                last = [value for place, value in self.store.frame.lines[cell][1:] if (mask >> place) & 1 == 1][-1:]
                if len(last) > 0:
                    writes.append((cell, last[0]))
                    shown = shown | (1 << (len(self.blocks) + at))
            self.known[mask] = (tuple(writes), shown)
        return self.known[mask]

    def store_of(self, shape):
        """The store with a shape in which each part has the last of its names."""
        names = {mask: self.store.names[~lowest(mask)] for mask, _ in shape}
        changes = [(names[mask], self.written(mask)[0]) for mask, _ in shape]
        ties = [(names[mask], names[other]) for mask, ahead in shape for other, _ in shape if other & ahead != 0]
        return Store(self.store.disk, tuple(changes), tuple(ties))

    def labelings(self, shape):
        """A value for each store that has a shape, equal to that of the same store of another shape."""
        choices = [()]
        for mask, _ in shape:
            choices = [row + (1 << at,) for row in choices for at in places_in(mask)]
        found = []
        for row in choices:
            taken = sum(row)
            parts = [(name, self.written(mask)[0], ahead & taken) for name, (mask, ahead) in zip(row, shape)]
            found.append(tuple(sorted(parts)))
        return found

    def shows(self, shape):
        """For each part what a kept change that is this part, or stands before it, is shown before by that."""
        own = [self.written(mask)[1] for mask, _ in shape]
        found = []
        for mask, _ in shape:
            far = 0
            for (other, ahead), bits in zip(shape, own):
                if other == mask or ahead & mask != 0:
                    far = far | bits
            found.append(far)
        return found

    def allows(self, shape, shown):
        """For each part what all kept changes before it are shown before."""
        kept = [(mask, bits) for (mask, _), bits in zip(shape, shown) if mask & self.kept_mask != 0]
        found = []
        for _, ahead in shape:
            every = -1
            for mask, bits in kept:
                if ahead & mask != 0:
                    every = every & bits
            found.append(every)
        return found

    def leads(self, shape):
        """The unnoticed joins and drops of a shape, as `(masks, shape)` with the two or the one that it is about."""
        free = [at for at, (mask, _) in enumerate(shape) if mask & self.kept_mask == 0]
        shown = self.shows(shape)
        allowed = self.allows(shape, shown)
        found = []
        for at in free:
            if self.can_drop(shape, at, shown):
                found.append(((shape[at][0],), dropped_part(shape, shape[at])))
            for other in free:
                # A join is unnoticed if the shown pairs stay the same.
                if other < at and shown[other] & ~allowed[at] == 0 and shown[at] & ~allowed[other] == 0:
                    masks = (shape[other][0], shape[at][0])
                    joined = joined_parts(shape, shape[other], shape[at])
                    if joined is not None and self.blocks[lowest(masks[0])] == self.blocks[lowest(masks[1])]:
                        found.append((masks, joined))
        return found

    def can_drop(self, shape, at, shown):
        """Whether nobody notices that a part is left out."""
        rest = dropped_part(shape, shape[at])
        left = self.shows(rest)
        others = [place for place in range(len(shape)) if place != at]
        for (mask, _), place, bits in zip(rest, others, left):
            if mask & self.kept_mask != 0 and shown[place] != bits:
                return False
        edit = Edit(self.store_of(shape), self.store_of(rest), self.kept)
        return edit.examine(limit=1 << len(shape))[0] == "table"
