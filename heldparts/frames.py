"""What follows from the changes of a store and their order: rows, lots, contents.

Changes have places, and sets of changes are the bits of integers, masks. The last name has place 0, the first one the
highest place, so of lots with equally many changes the one that is listed first is the greatest integer.
"""

from heldparts.errors import NoStore, Ring
from heldparts.orders import places_in, ring_in, settled


def earlier_places(places, ties):
    """For each place a list of those that ties put before it."""
    found = [[] for _ in places]
    try:
        for later, earlier in ties:
            found[places[later]].append(places[earlier])
    except KeyError:
        raise NoStore("name") from None
    return found


def lines_of(disk, changes, order):
    """For each cell `(place, value)` for each change of its row, behind the value on the disk, which has place -1."""
    found = {}
    for cell, value in disk:
        found[cell] = [(-1, value)]
    for at in order:
        for cell, value in changes[~at][1]:
            found[cell].append((at, value))
    return found


class Frame:
    """The changes of a store by their places: all of a store but what only others ask for.

    That changes write only cells of the disk, and that all rows are in order, is not looked at.
    """

    def __init__(self, disk, changes, ties):
        self.cells = tuple([cell for cell, _ in disk])
        self.changes = tuple(sorted(changes))
        self.names = tuple([name for name, _ in self.changes])
        last = len(self.names) - 1
        self.places = {name: last - at for at, name in enumerate(self.names)}
        if len(self.places) <= last:
            raise NoStore("name")
        earlier = earlier_places(self.places, ties)
        self.order, self.masks, self.near = settled(earlier)
        if len(self.order) <= last:
            raise Ring(tuple([self.names[~at] for at in ring_in(earlier, self.order)]))
        # With each change all that stands before it; the last one stands for no change, which has place -1.
        self.upto = [mask | (1 << at) for at, mask in enumerate(self.masks)] + [0]
        self.lines = lines_of(disk, self.changes, self.order)

    def mask_of(self, names):
        """The mask of these names, which may be repeated."""
        mask = 0
        for name in names:
            mask = mask | (1 << self.places[name])
        return mask

    def names_in(self, mask):
        """The names in a mask, ascending."""
        return tuple([self.names[~at] for at in places_in(mask)[::-1]])

    def closure(self, mask):
        """The mask of the least lot that has these changes."""
        whole = mask
        for at in places_in(mask):
            whole = whole | self.masks[at]
        return whole

    def count_in(self, cell, mask):
        """How many changes of the row of a cell are in a lot."""
        line = self.lines[cell]
        count = len(line) - 1
        while count > 0 and (mask >> line[count][0]) & 1 == 0:
            count -= 1
        return count

    def content(self, mask):
        """The content of a lot."""
        return tuple([(cell, self.lines[cell][self.count_in(cell, mask)][1]) for cell in self.cells])

    def whole_content(self):
        """The content of the lot of all changes."""
        return tuple([(cell, self.lines[cell][-1][1]) for cell in self.cells])

    def is_done(self, cell, mask):
        """Whether a cell is done in a lot."""
        # The last change of a row has all others before it.
        return self.upto[self.lines[cell][-1][0]] & ~mask == 0

    def done_cells(self, mask):
        """The cells that are done in a lot, ascending."""
        return tuple([cell for cell in self.cells if self.is_done(cell, mask)])
