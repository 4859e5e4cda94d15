"""The lots of a store as masks: its changes are places, in the order of their names, and a lot is some bits."""

from heldparts.errors import TooMany
from heldparts.orders import places_in


class Lattice:
    """What lots ask of a store, by places instead of names."""

    def __init__(self, store):
        self.names = store.names
        self.places = store.places
        self.cells = store.cells
        self.upto = [mask | (1 << at) for at, mask in enumerate(store.masks)]
        self.rows = {cell: [store.places[name] for name in store.row(cell)] for cell in store.cells}
        self.steps = {cell: store.row_values(cell) for cell in store.cells}

    def mask_of(self, names):
        """The mask of these names, which may be repeated."""
        mask = 0
        for name in names:
            mask = mask | (1 << self.places[name])
        return mask

    def names_in(self, mask):
        """The names in a mask, ascending."""
        return tuple([self.names[at] for at in places_in(mask)])

    def closure(self, mask):
        """The mask of the least lot that has these changes."""
        whole = mask
        for at in places_in(mask):
            whole = whole | self.upto[at]
        return whole

    def count_in(self, cell, mask):
        """How many changes of the row of a cell are in a lot."""
        row = self.rows[cell]
        count = len(row)
        while count > 0 and (mask >> row[count - 1]) & 1 == 0:
            count -= 1
        return count

    def content(self, mask):
        """The content of a lot."""
        return tuple([(cell, self.steps[cell][self.count_in(cell, mask)]) for cell in self.cells])

    def done_cells(self, mask):
        """The cells that are done in a lot, ascending."""
        return tuple([cell for cell in self.cells if self.is_done(cell, mask)])

    def is_done(self, cell, mask):
        """Whether a cell is done in a lot."""
        row = self.rows[cell]
        # The last change of a row has all others before it.
        return len(row) == 0 or (mask >> row[-1]) & 1 == 1


def next_level(lattice, level):
    """The lots with a change more than those of a level, those with equally many changes, ascending."""
    found = {}
    for mask in level:
        for at in range(len(lattice.upto)):
            more = mask | (1 << at)
            if more != mask and lattice.upto[at] & ~more == 0:
                found[more] = True
    return sorted(list(found), key=places_in)


def lot_masks(lattice):
    """Yield all lots, those with fewer changes first, those with equally many ascending."""
    level = [0]
    while len(level) > 0:
        yield from level
        level = next_level(lattice, level)


def lot_masks_within(lattice, limit):
    """The list of all lots, if there are no more than a limit."""
    found = []
    for mask in lot_masks(lattice):
        if len(found) == limit:
            raise TooMany(limit)
        found.append(mask)
    return found
