"""Shapes: what joins and drops leave of a store, whichever of their names the changes have.

A shape is an ascending tuple of parts `(mask, ahead)`: the changes of the first store that were joined to make one, and
all those that parts before it were made of. A part may have the name of each change that it was made of, whatever the
others are called, and its name is nothing that anybody notices. So each shape is looked at once for many stores.
"""

from heldparts.edits import Edit
from heldparts.orders import places_in
from heldparts.stores import Store


def lowest(mask):
    """The first place in a mask."""
    return (mask & -mask).bit_length() - 1


def joined_parts(shape, first, second):
    """The shape in which two parts are one, or None if a part stands between them."""
    whole = first[0] | second[0]
    ahead = (first[1] | second[1]) & ~whole
    parts = [(whole, ahead)]
    for mask, earlier in shape:
        if mask & whole == 0:
            if earlier & whole == 0:
                parts.append((mask, earlier))
            elif mask & ahead == 0:
                parts.append((mask, earlier | whole | ahead))
            else:
                return None
    return tuple(sorted(parts))


def dropped_part(shape, part):
    """The shape without a part."""
    return tuple([(mask, ahead & ~part[0]) for mask, ahead in shape if mask != part[0]])


class Shapes:
    """The shapes of one store with kept names."""

    def __init__(self, store, kept):
        self.store = store
        self.kept = kept
        self.kept_mask = store.frame.mask_of(kept)
        self.first = tuple([(1 << at, ahead) for at, ahead in enumerate(store.frame.masks)])
        self.blocks = [writes[0][0][0] for _, writes in store.changes[::-1]]
        # What a part writes depends on nothing but the changes that it was made of, as do the bits of its cells.
        self.known = {}
        self.numbers = {}
        # Where the parts are that can be joined or left out, for each pattern of shapes.
        self.choices = {}

    def written(self, mask):
        """What a part writes, what can be shown of it, bits for a kept name and for its cells; and a number for it."""
        if mask not in self.known:
            writes = []
            shown = mask & self.kept_mask
            for at, cell in enumerate(self.store.cells):
                last = [value for place, value in self.store.frame.lines[cell][1:] if (mask >> place) & 1 == 1][-1:]
                if len(last) > 0:
                    writes.append((cell, last[0]))
                    shown = shown | (1 << (len(self.blocks) + at))
            number = self.numbers.setdefault(tuple(writes), len(self.numbers))
            self.known[mask] = (tuple(writes), shown, number)
        return self.known[mask]

    def store_of(self, shape):
        """The store with a shape in which each part has the last of its names."""
        names = {mask: self.store.names[~lowest(mask)] for mask, _ in shape}
        changes = [(names[mask], self.written(mask)[0]) for mask, _ in shape]
        ties = [(names[mask], names[other]) for mask, ahead in shape for other, _ in shape if other & ahead != 0]
        return Store(self.store.disk, tuple(changes), tuple(ties))

    def labelings(self, shape):
        """A value for each store that has a shape, equal to that of the same store of another shape."""
        choices = [()]
        for mask, _ in shape:
            choices = [row + (1 << at,) for row in choices for at in places_in(mask)]
        found = []
        for row in choices:
            taken = sum(row)
            parts = [(name, self.written(mask)[2], ahead & taken) for name, (mask, ahead) in zip(row, shape)]
            found.append(tuple(sorted(parts)))
        return found

    def shows(self, shape):
        """For each part what a kept change that is this part, or stands before it, is shown before by that."""
        own = [self.written(mask)[1] for mask, _ in shape]
        found = []
        for mask, _ in shape:
            far = 0
            for (other, ahead), bits in zip(shape, own):
                if other == mask or ahead & mask != 0:
                    far = far | bits
            found.append(far)
        return found

    def allows(self, shape, shown):
        """For each part what all kept changes before it are shown before."""
        kept = [(mask, bits) for (mask, _), bits in zip(shape, shown) if mask & self.kept_mask != 0]
        found = []
        for _, ahead in shape:
            every = -1
            for mask, bits in kept:
                if ahead & mask != 0:
                    every = every & bits
            found.append(every)
        return found

    def pattern(self, shape):
        """A value that tells all of a shape but which changes its parts were made of, and the parts in its order."""
        rows = []
        for mask, ahead in shape:
            count = len([True for other, _ in shape if other & ahead != 0])
            rows.append((count, self.written(mask)[2], mask & self.kept_mask, mask, ahead))
        rows = sorted(rows)
        value = []
        for _, number, kept, _, ahead in rows:
            value.append((number, kept, sum([1 << at for at, row in enumerate(rows) if row[3] & ahead != 0])))
        return tuple(value), tuple([(mask, ahead) for _, _, _, mask, ahead in rows])

    def leads(self, shape):
        """The unnoticed joins and drops of a shape, as `(masks, shape)` with the two or the one that it is about."""
        value, parts = self.pattern(shape)
        if value not in self.choices:
            self.choices[value] = self.drops_of(parts) + self.joins_of(parts)
        found = []
        for places in self.choices[value]:
            first = parts[places[0]]
            more = dropped_part(shape, first) if len(places) == 1 else joined_parts(shape, first, parts[places[1]])
            found.append((tuple([parts[at][0] for at in places]), more))
        return found

    def joins_of(self, parts):
        """The places of the parts of a shape that can be joined: the shown pairs stay the same."""
        shown = self.shows(parts)
        allowed = self.allows(parts, shown)
        free = [at for at, (mask, _) in enumerate(parts) if mask & self.kept_mask == 0]
        found = []
        for at in free:
            block = self.blocks[lowest(parts[at][0])]
            for other in free:
                if other < at and shown[other] & ~allowed[at] == 0 and shown[at] & ~allowed[other] == 0:
                    if block == self.blocks[lowest(parts[other][0])]:
                        if joined_parts(parts, parts[other], parts[at]) is not None:
                            found.append((other, at))
        return found

    def drops_of(self, parts):
        """The places of the parts of a shape that can be left out."""
        shown = self.shows(parts)
        before = self.store_of(parts)
        found = []
        for at, part in enumerate(parts):
            if part[0] & self.kept_mask == 0 and self.shows_enough(parts, part, shown):
                edit = Edit(before, self.store_of(dropped_part(parts, part)), self.kept)
                if edit.examine(limit=1 << len(parts))[0] == "table":
                    found.append((at,))
        return found

    def shows_enough(self, parts, part, shown):
        """Whether without a part each kept change is shown before all that it was shown before."""
        rest = dropped_part(parts, part)
        left = self.shows(rest)
        stay = [bits for other, bits in zip(parts, shown) if other != part]
        return all([mask & self.kept_mask == 0 or had == bits for (mask, _), had, bits in zip(rest, stay, left)])
