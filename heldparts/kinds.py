"""Kinds of edits that are made from a store, each with a rule that may tell at once whether it is noticed."""

from heldparts.edits import Edit, shown_pairs
from heldparts.errors import NoEdit
from heldparts.forms import are_names_in, ascends
from heldparts.stores import Store


def check_kept(store, kept, *touched):
    """Raise an error if kept names are none of a store in their order, or if a touched change is kept."""
    if not are_names_in(kept, store) or any([name in kept for name in touched]):
        raise NoEdit("kept")


def block_of(store, name):
    """The block of a change."""
    return store.writes(name)[0][0][0]


def stands_between(store, first, last):
    """Whether a change stands behind one change and before another one."""
    return any([store.is_before(first, name) for name in store.ahead_of(last)])


def changes_without(store, *names):
    """The changes of a store but for some."""
    return tuple([change for change in store.changes if change[0] not in names])


def joined(store, first, second):
    """The store in which two changes are one, with the name of the first one."""
    last, other = (second, first) if store.is_before(first, second) else (first, second)
    writes = {cell: value for cell, value in store.writes(other) + store.writes(last)}
    changes = changes_without(store, first, second) + ((first, tuple(sorted(writes.items()))),)
    ties = []
    for tie in store.ties:
        later, earlier = [first if name == second else name for name in tie]
        if later != earlier:
            ties.append((later, earlier))
    return Store(store.disk, changes, tuple(ties))


def untied(store, tie):
    """The store without an immediate tie; what the other ones and the rows ask for stays."""
    ties = [other for other in store.ties if other != tie]
    for cell in store.cells:
        row = store.row(cell)
        ties = ties + list(zip(row[1:], row))
    return Store(store.disk, store.changes, tuple(ties))


def dropped(store, name):
    """The store without a change, in which the others have the order that they had."""
    ties = [tie for tie in store.ties if name not in tie]
    firsts = [earlier for later, earlier in store.ties if later == name]
    lasts = [later for later, earlier in store.ties if earlier == name]
    across = [(later, earlier) for later in lasts for earlier in firsts]
    return Store(store.disk, changes_without(store, name), tuple(ties + across))


def divided(store, name, new, cells):
    """The store in which some cells of a change are written by a new one, before and behind the same changes."""
    writes = store.writes(name)
    stay = tuple([part for part in writes if part[0] not in cells])
    leave = tuple([part for part in writes if part[0] in cells])
    ties = [tuple([new if other == name else other for other in tie]) for tie in store.ties if name in tie]
    return Store(store.disk, changes_without(store, name) + ((name, stay), (new, leave)), store.ties + tuple(ties))


def shows_the_same(edit):
    """Whether the shown pairs of both stores of an edit are the same."""
    return shown_pairs(edit.before, edit.kept) == shown_pairs(edit.after, edit.kept)


def waits_like_the_one_before(store, name, cell):
    """Whether all that stands before the last change of a row stands before the one just before it, or is that one."""
    row = store.row(cell)
    ahead = store.ahead_of(name)
    if len(row) == 1:
        return len(ahead) == 0
    return all([other == row[-2] or store.is_before(other, row[-2]) for other in ahead])


def is_idle(store, name):
    """Whether a change is a ghost that no cell waits for more than for the change before it."""
    if not store.is_ghost(name):
        return False
    ends = [cell for cell, _ in store.writes(name) if store.row(cell)[-1] == name]
    return all([waits_like_the_one_before(store, name, cell) for cell in ends])


class Join(Edit):
    """Two changes of one block become one."""

    def __init__(self, before, first, second, kept=()):
        check_kept(before, kept, first, second)
        if first == second:
            raise NoEdit("same")
        if block_of(before, first) != block_of(before, second):
            raise NoEdit("block")
        if stands_between(before, first, second) or stands_between(before, second, first):
            raise NoEdit("between")
        Edit.__init__(self, before, joined(before, first, second), kept)

    def rule(self):
        """Whether the shown pairs stay the same: then, and only then, nobody can notice it."""
        return super().rule() or shows_the_same(self)


class Tie(Edit):
    """A change is put behind another one."""

    def __init__(self, before, later, earlier, kept=()):
        check_kept(before, kept)
        if later == earlier or before.is_before(later, earlier):
            raise NoEdit("ring")
        if before.is_before(earlier, later):
            raise NoEdit("tie")
        Edit.__init__(self, before, before.tied(later, earlier), kept)

    def rule(self):
        """Whether the shown pairs stay the same: then, and only then, nobody can notice it."""
        return super().rule() or shows_the_same(self)


class Untie(Edit):
    """An immediate tie is left out."""

    def __init__(self, before, later, earlier, kept=()):
        check_kept(before, kept)
        if (later, earlier) not in before.ties:
            raise NoEdit("tie")
        cells = [cell for cell, _ in before.writes(later)]
        if any([cell in cells for cell, _ in before.writes(earlier)]):
            raise NoEdit("row")
        Edit.__init__(self, before, untied(before, (later, earlier)), kept)

    def rule(self):
        """None, if the stores are not equal: the tie alone does not tell."""
        return super().rule()


class Drop(Edit):
    """A change is left out."""

    def __init__(self, before, name, kept=()):
        check_kept(before, kept, name)
        Edit.__init__(self, before, dropped(before, name), kept)
        self.dropped = name

    def rule(self):
        """True if the change is idle, otherwise None."""
        return super().rule() or (True if is_idle(self.before, self.dropped) else None)


class Split(Edit):
    """Some cells of a change go to a new one."""

    def __init__(self, before, name, new, cells, kept=()):
        check_kept(before, kept, name)
        if new in before:
            raise NoEdit("name")
        known = [cell for cell, _ in before.writes(name)]
        if not (0 < len(cells) < len(known) and all([cell in known for cell in cells]) and ascends(cells)):
            raise NoEdit("cells")
        Edit.__init__(self, before, divided(before, name, new, cells), kept)

    def rule(self):
        """None, if the stores are not equal: the names alone do not tell."""
        return super().rule()
