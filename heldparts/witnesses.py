"""Strangers that are made for two stores with the same disk, which are not alike."""

from heldparts.forms import name_of


def free_cell_in(store, block):
    """The first cell of a block that is none of a store."""
    place = 0
    while (block, place) in store.cells:
        place += 1
    return block, place


def free_cells(store, count):
    """Some first cells of block 0 that are none of a store."""
    found = []
    place = 0
    while len(found) < count:
        if (0, place) not in store.cells:
            found.append((0, place))
        place += 1
    return found


def free_names(before, after, count):
    """Some first names that no change of two stores has, ascending."""
    found = []
    number = 0
    while len(found) < count:
        name = name_of(number)
        if name not in before and name not in after:
            found.append(name)
        number += 1
    return sorted(found)


def free_value(before, after, cell):
    """A value that a cell never has in two stores."""
    value = 0
    while value in before.row_values(cell) or value in after.row_values(cell):
        value += 1
    return value


def first_only_in(pairs, others):
    """The first of two ascending tuples' pairs that is in only one of them, or None."""
    only = [pair for pair in pairs if pair not in others] + [pair for pair in others if pair not in pairs]
    if len(only) == 0:
        return None
    return min(only)


def ring_stranger(before, after, shown, others):
    """A stranger that closes a ring with the one of two stores in which a kept change shows before something."""
    added = free_names(before, after, 1)[0]
    pair = first_only_in(shown[0], others[0])
    if pair is not None:
        # The added change waits for the later one of both kept changes, and the earlier one for it.
        cell = free_cells(before, 1)[0]
        ties = tuple(sorted([(pair[0], added), (added, pair[1])]))
        return "ring", (((cell, 0),), ((added, ((cell, 0),)),), ties)
    name, cell = first_only_in(shown[1], others[1])
    # The added change waits for the row of the cell, and the kept one for it.
    return "ring", ((), ((added, ((cell, 0),)),), ((name, added),))


def lot_stranger(before, after, kept, lot, done):
    """A stranger for a lot that no lot with the same content, the same kept names and these cells done answers.

    It adds a change behind the kept ones of the lot, one before the other kept ones, and one behind the row of each
    cell that is done. All but the second are in its lot. So by the content a lot of the store before the edit has the
    same kept names and these cells done; the values of these cells, which the memories share, are hidden.
    """
    had = [name for name in kept if name in lot]
    missed = [name for name in kept if name not in lot]
    # A cell that nothing writes is always done.
    asked = [cell for cell in done if len(before.row(cell)) > 0]
    late, early, *ends = free_names(before, after, 2 + len(asked))
    cells = free_cells(before, 2)
    changes = [(name, ((cell, free_value(before, after, cell)),)) for name, cell in zip(ends, asked)]
    names = list(lot) + ends
    disk = []
    if len(had) > 0:
        disk.append((cells[0], 0))
        changes.append((late, ((cells[0], 1),)))
        names.append(late)
    if len(missed) > 0:
        disk.append((cells[1], 0))
        changes.append((early, ((cells[1], 1),)))
    ties = sorted([(late, name) for name in had] + [(name, early) for name in missed])
    context = (tuple(disk), tuple(sorted(changes)), tuple(ties))
    return "lot", context, tuple(sorted(names))
