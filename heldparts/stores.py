"""Stores: a disk, the changes that wait for it, and the order in which they may reach it."""

from heldparts.errors import InvalidText, NoStore, NoWrite, Ring
from heldparts.orders import closed, direct_masks, ordered, places_in, ring_in
from heldparts.texts import parts_in, store_text


def check_cells(disk, changes):
    """Raise an error if a change writes a cell that is not on the disk."""
    known = {cell: True for cell, _ in disk}
    if not all([cell in known for _, writes in changes for cell, _ in writes]):
        raise NoStore("cell")


def check_names(changes, ties):
    """Raise an error if two changes have the same name, or if no change has a name of a tie."""
    known = {name: True for name, _ in changes}
    if len(known) < len(changes):
        raise NoStore("name")
    if not all([name in known for tie in ties for name in tie]):
        raise NoStore("name")


def rows_of(disk, changes):
    """The names that write each cell, where the changes come in an order in which they may be written."""
    found = {}
    for cell, _ in disk:
        found[cell] = []
    for name, writes in changes:
        for cell, _ in writes:
            found[cell].append(name)
    return {cell: tuple(found[cell]) for cell, _ in disk}


def values_of(disk, changes):
    """The values that each cell has one after another, where the changes come in such an order, too."""
    found = {}
    for cell, value in disk:
        found[cell] = [value]
    for _, writes in changes:
        for cell, value in writes:
            found[cell].append(value)
    return {cell: tuple(found[cell]) for cell, _ in disk}


class Store:
    """A disk, changes that wait for it, and which of them stand before which."""

    MOST = 12

    def __init__(self, disk, changes, ties):
        check_cells(disk, changes)
        check_names(changes, ties)
        self.disk = disk
        self.cells = tuple([cell for cell, _ in disk])
        self.changes = tuple(sorted(changes))
        self.names = tuple([name for name, _ in self.changes])
        self.blocks = tuple(sorted({writes[0][0][0] for _, writes in self.changes}))
        self.places = {name: at for at, name in enumerate(self.names)}
        direct = direct_masks(self.places, ties)
        order = ordered(direct)
        if len(order) < len(direct):
            raise Ring(tuple([self.names[at] for at in ring_in(direct, order)]))
        self.masks, near = closed(direct, order)
        self._rows = rows_of(disk, [self.changes[at] for at in order])
        self._values = values_of(disk, [self.changes[at] for at in order])
        self._check_rows()
        self.ties = tuple([(name, self.names[at]) for name, mask in zip(self.names, near) for at in places_in(mask)])
        self.memory = tuple([(cell, self._values[cell][-1]) for cell in self.cells])
        self.text = store_text(self.disk, self.changes, self.ties)

    @classmethod
    def empty(cls, disk):
        """The store with this disk, in which no change waits."""
        return cls(disk, (), ())

    @classmethod
    def read(cls, text):
        """The store with a text."""
        disk, changes, ties = parts_in(text)
        try:
            store = cls(disk, changes, ties)
        except NoStore:
            raise InvalidText() from None
        # Lines in another order, and ties that follow from others, are told by the text alone.
        if store.text != text:
            raise InvalidText()
        return store

    def __len__(self):
        return len(self.changes)

    def __contains__(self, x):
        return isinstance(x, str) and x in self.places

    def __eq__(self, other):
        if not isinstance(other, Store):
            return False
        return self.disk == other.disk and self.changes == other.changes and self.ties == other.ties

    def __or__(self, other):
        if not isinstance(other, Store):
            return NotImplemented
        if any([cell in self.cells for cell in other.cells]):
            raise NoStore("cell")
        # A common name is an error of the store that is made.
        disk = tuple(sorted(self.disk + other.disk))
        return Store(disk, self.changes + other.changes, self.ties + other.ties)

    def _check_rows(self):
        # In a row that is put in order, neighbours that are tied tie all others.
        for cell in self.cells:
            row = self._rows[cell]
            if not all([self.is_before(row[at], row[at + 1]) for at in range(len(row) - 1)]):
                raise NoStore("row")

    def writes(self, name):
        """The writes of a change."""
        return self.changes[self.places[name]][1]

    def row(self, cell):
        """The names of the changes that write a cell, in their order."""
        return self._rows[cell]

    def row_values(self, cell):
        """The values that a cell has with none of its row, the first one, the first two and so on."""
        return self._values[cell]

    def is_before(self, earlier, later):
        """Whether one change stands before another one."""
        return (self.masks[self.places[later]] >> self.places[earlier]) & 1 == 1

    def ahead_of(self, name):
        """The names of the changes that stand before a change, ascending."""
        return tuple([self.names[at] for at in places_in(self.masks[self.places[name]])])

    def behind(self, name):
        """The names of the changes that stand behind a change, ascending."""
        return tuple([other for other in self.names if self.is_before(name, other)])

    def is_ghost(self, name):
        """Whether each value that a change writes is the value of that cell just before it."""
        return all([self._values[cell][self._rows[cell].index(name)] == value for cell, value in self.writes(name)])

    def _left_by(self, names):
        """The content of the disk when exactly these changes, a lot, are on it."""
        content = []
        for cell in self.cells:
            count = len([name for name in self._rows[cell] if name in names])
            content.append((cell, self._values[cell][count]))
        return tuple(content)

    def with_change(self, name, writes, *after):
        """The store with a change more, behind the rows of its cells, these changes and all before these."""
        check_cells(self.disk, ((name, writes),))
        if name in self or not all([other in self for other in after]):
            raise NoStore("name")
        lasts = [self._rows[cell][-1] for cell, _ in writes if len(self._rows[cell]) > 0]
        ties = tuple([(name, other) for other in lasts] + [(name, other) for other in after])
        return Store(self.disk, self.changes + ((name, writes),), self.ties + ties)

    def tied(self, later, earlier):
        """The store in which one change stands behind another one."""
        if later == earlier or self.is_before(later, earlier):
            raise Ring((later, earlier))
        if self.is_before(earlier, later):
            return self
        return Store(self.disk, self.changes, self.ties + ((later, earlier),))

    def written(self, *names):
        """The store after these changes, a lot in one block, have been written."""
        if not self._can_write(names):
            raise NoWrite(names)
        rest = tuple([change for change in self.changes if change[0] not in names])
        # Nothing that stands before a change of a lot is left, so no tie between the others hangs on the lot.
        ties = tuple([(later, earlier) for later, earlier in self.ties if earlier not in names])
        return Store(self._left_by(names), rest, ties)

    def _can_write(self, names):
        if len(names) == 0 or not all([name in self for name in names]):
            return False
        if len({self.writes(name)[0][0][0] for name in names}) > 1:
            return False
        return all([other in names for name in names for other in self.ahead_of(name)])
