"""Stores: a disk, the changes that wait for it, and the order in which they may reach it."""

from heldparts.errors import InvalidText, NoStore, NoWrite, Ring
from heldparts.frames import Frame
from heldparts.orders import places_in
from heldparts.texts import parts_in, store_text


def check_cells(disk, changes):
    """Raise an error if a change writes a cell that is not on the disk."""
    known = {cell: True for cell, _ in disk}
    for _, writes in changes:
        for cell, _ in writes:
            if cell not in known:
                raise NoStore("cell")


def check_rows(frame):
    """Raise an error if of two changes that write the same cell none stands before the other."""
    # In a row that is put in order, neighbours that are tied tie all others.
    for cell in frame.cells:
        line = frame.lines[cell]
        if len(line) > 2:
            for at in range(2, len(line)):
                if (frame.masks[line[at][0]] >> line[at - 1][0]) & 1 == 0:
                    raise NoStore("row")


def ties_in(frame):
    """The immediate ties, ascending."""
    found = []
    for at, (name, _) in enumerate(frame.changes):
        near = frame.near[~at]
        if near != 0:
            found = found + [(name, frame.names[~place]) for place in places_in(near)[::-1]]
    return tuple(found)


class Store:
    """A disk, changes that wait for it, and which of them stand before which."""

    MOST = 12

    def __init__(self, disk, changes, ties):
        check_cells(disk, changes)
        frame = Frame(disk, changes, ties)
        check_rows(frame)
        self.frame = frame
        self.disk = disk
        self.cells = frame.cells
        self.changes = frame.changes
        self.names = frame.names
        self.blocks = tuple(sorted({writes[0][0][0] for _, writes in self.changes}))
        self.ties = ties_in(frame)
        self.memory = frame.whole_content()
        self.text = store_text(disk, self.changes, self.ties)

    @classmethod
    def empty(cls, disk):
        """The store with this disk, in which no change waits."""
        return cls(disk, (), ())

    @classmethod
    def read(cls, text):
        """The store with a text."""
        disk, changes, ties = parts_in(text)
        try:
            store = cls(disk, changes, ties)
        except NoStore:
            raise InvalidText() from None
        # Lines in another order, and ties that follow from others, are told by the text alone.
        if store.text != text:
            raise InvalidText()
        return store

    def __len__(self):
        return len(self.changes)

    def __contains__(self, x):
        return isinstance(x, str) and x in self.frame.places

    def __eq__(self, other):
        if not isinstance(other, Store):
            return False
        return self.disk == other.disk and self.changes == other.changes and self.ties == other.ties

    def __or__(self, other):
        if not isinstance(other, Store):
            return NotImplemented
        if any([cell in self.frame.lines for cell in other.cells]):
            raise NoStore("cell")
        # A common name is an error of the store that is made.
        disk = tuple(sorted(self.disk + other.disk))
        return Store(disk, self.changes + other.changes, self.ties + other.ties)

    def writes(self, name):
        """The writes of a change."""
        return self.changes[~self.frame.places[name]][1]

    def row(self, cell):
        """The names of the changes that write a cell, in their order."""
        return tuple([self.names[~at] for at, _ in self.frame.lines[cell][1:]])

    def row_values(self, cell):
        """The values that a cell has with none of its row, the first one, the first two and so on."""
        return tuple([value for _, value in self.frame.lines[cell]])

    def is_before(self, earlier, later):
        """Whether one change stands before another one."""
        places = self.frame.places
        return (self.frame.masks[places[later]] >> places[earlier]) & 1 == 1

    def ahead_of(self, name):
        """The names of the changes that stand before a change, ascending."""
        return self.frame.names_in(self.frame.masks[self.frame.places[name]])

    def behind(self, name):
        """The names of the changes that stand behind a change, ascending."""
        return tuple([other for other in self.names if self.is_before(name, other)])

    def is_ghost(self, name):
        """Whether each value that a change writes is the value of that cell just before it."""
        place = self.frame.places[name]
        for cell, value in self.writes(name):
            line = self.frame.lines[cell]
            if line[line.index((place, value)) - 1][1] != value:
                return False
        return True

    def with_change(self, name, writes, *after):
        """The store with a change more, behind the rows of its cells, these changes and all before these."""
        check_cells(self.disk, ((name, writes),))
        if name in self or not all([other in self for other in after]):
            raise NoStore("name")
        lasts = [self.frame.lines[cell][-1][0] for cell, _ in writes]
        ties = [(name, self.names[~at]) for at in lasts if at >= 0] + [(name, other) for other in after]
        return Store(self.disk, self.changes + ((name, writes),), self.ties + tuple(ties))

    def tied(self, later, earlier):
        """The store in which one change stands behind another one."""
        if later == earlier or self.is_before(later, earlier):
            raise Ring((later, earlier))
        if self.is_before(earlier, later):
            return self
        return Store(self.disk, self.changes, self.ties + ((later, earlier),))

    def written(self, *names):
        """The store after these changes, a lot in one block, have been written."""
        if not self._can_write(names):
            raise NoWrite(names)
        rest = tuple([change for change in self.changes if change[0] not in names])
        # Nothing that stands before a change of a lot is left, so no tie between the others hangs on the lot.
        ties = tuple([(later, earlier) for later, earlier in self.ties if earlier not in names])
        return Store(self.frame.content(self.frame.mask_of(names)), rest, ties)

    def _can_write(self, names):
        if len(names) == 0 or not all([name in self for name in names]):
            return False
        if len({self.writes(name)[0][0][0] for name in names}) > 1:
            return False
        mask = self.frame.mask_of(names)
        return self.frame.closure(mask) == mask
