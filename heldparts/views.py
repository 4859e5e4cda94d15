"""Views: what of a store of changes can ever be noticed."""

from heldparts.codes import Coder, values_in
from heldparts.edits import shown_pairs
from heldparts.entries import entries_of, entry_codes
from heldparts.errors import NoStore, Ring
from heldparts.forms import merged
from heldparts.texts import view_text


def uncovered(entries):
    """The entries that no other one covers, ascending, each once."""
    # Of the entries of a store with the same content and names, one has the done cells of all of them.
    found = {}
    for content, names, done in entries:
        if len(done) >= len(found.get((content, names), ())):
            found[(content, names)] = done
    return tuple(sorted([(content, names, found[(content, names)]) for content, names in found]))


def shown_in(cells, kept, entries):
    """The shown pairs of the store whose view has these parts."""
    places = {name: at for at, name in enumerate(kept)}
    every = (1 << len(kept)) - 1
    beside = {name: every for name in kept}
    under = {cell: every for cell in cells}
    for _, names, done in entries:
        mask = sum([1 << places[name] for name in names])
        for name in names:
            beside[name] = beside[name] & mask
        for cell in done:
            under[cell] = under[cell] & mask
    changes = [(name, other) for name in kept for other in kept
               if name != other and (beside[other] >> places[name]) & 1 == 1]
    return tuple(changes), tuple([(name, cell) for name in kept for cell in cells
                                  if (under[cell] >> places[name]) & 1 == 1])


def view_with(cells, kept, entries):
    """The view of a store with these cells, kept names and entries."""
    left = uncovered(entries)
    return View(cells, kept, left, shown_in(cells, kept, left), view_text(left))


class View:
    """The cells and kept names of a store, and the entries of its lots that are not covered."""

    def __init__(self, cells, kept, entries, shown, text):
        self.cells = cells
        self.kept = kept
        self.entries = entries
        self.shown = shown
        self.text = text

    @classmethod
    def of(cls, store, kept, *, limit=500):
        """The view of a store with kept names."""
        entries, text = entries_of(store.frame, kept, limit)
        return cls(store.cells, kept, entries, shown_pairs(store, kept), text)

    def __len__(self):
        return len(self.entries)

    def __eq__(self, other):
        if not isinstance(other, View):
            return False
        return self.cells == other.cells and self.kept == other.kept and self.entries == other.entries

    def __or__(self, other):
        if not isinstance(other, View):
            return NotImplemented
        if any([cell in self.cells for cell in other.cells]):
            raise NoStore("cell")
        if any([name in self.kept for name in other.kept]):
            raise NoStore("name")
        entries = []
        for content, names, done in self.entries:
            for left, had, ended in other.entries:
                entries.append((merged(content, left), merged(names, had), merged(done, ended)))
        return view_with(merged(self.cells, other.cells), merged(self.kept, other.kept), entries)

    def is_within(self, other):
        """Whether this view is within another one."""
        if self.cells != other.cells or self.kept != other.kept:
            return False
        found = {(content, names): done for content, names, done in other.entries}
        for content, names, done in self.entries:
            if (content, names) not in found or not all([cell in found[(content, names)] for cell in done]):
                return False
        return all([pair in other.shown[part] for part in (0, 1) for pair in self.shown[part]])

    def _check_kept(self, names):
        if not all([name in self.kept for name in names]):
            raise NoStore("name")

    def added(self, name, writes, *after):
        """The view with a change more, behind the rows of its cells and behind kept ones; it is kept."""
        written = {cell: value for cell, value in writes}
        if not all([cell in self.cells for cell in written]):
            raise NoStore("cell")
        if name in self.kept:
            raise NoStore("name")
        self._check_kept(after)
        entries = []
        for content, names, done in self.entries:
            # Without the change its cells are not done; with it, their rows and what it stands behind are there.
            entries.append((content, names, tuple([cell for cell in done if cell not in written])))
            if all([cell in done for cell in written]) and all([other in names for other in after]):
                left = tuple([(cell, written.get(cell, value)) for cell, value in content])
                entries.append((left, merged(names, (name,)), done))
        return view_with(self.cells, merged(self.kept, (name,)), entries)

    def released(self, *names):
        """The view in which these names are not kept any more."""
        self._check_kept(names)
        entries = []
        for content, had, done in self.entries:
            entries.append((content, tuple([name for name in had if name not in names]), done))
        return view_with(self.cells, tuple([name for name in self.kept if name not in names]), entries)

    def renamed(self, old, new):
        """The view in which a kept change has another name."""
        self._check_kept((old,))
        if new in self.kept:
            raise NoStore("name")
        names = {name: name for name in self.kept}
        names[old] = new
        entries = []
        for content, had, done in self.entries:
            entries.append((content, tuple(sorted([names[name] for name in had])), done))
        return view_with(self.cells, tuple(sorted([names[name] for name in self.kept])), entries)

    def tied(self, later, earlier):
        """The view in which a kept change stands behind another one."""
        self._check_kept((later, earlier))
        if later == earlier or (later, earlier) in self.shown[0]:
            raise Ring((later, earlier))
        if (earlier, later) in self.shown[0]:
            return self
        entries = [entry for entry in self.entries if later not in entry[1] or earlier in entry[1]]
        return view_with(self.cells, self.kept, entries)


def are_alike(store, other, kept, *, limit=500):
    """Whether two stores with the same disk and the same kept changes are alike."""
    coder = Coder(store.cells, kept, values_in(store.frame, other.frame))
    return entry_codes(coder, store.frame, limit) == entry_codes(coder, other.frame, limit)
