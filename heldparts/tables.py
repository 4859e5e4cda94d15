"""Tables, by which nobody can ever notice an edit."""

from heldparts.edits import shown_pairs
from heldparts.forms import is_pair
from heldparts.lattices import Lattice, lot_masks
from heldparts.lots import is_lot, lots


def shows_no_more(edit):
    """Whether the store after an edit has no shown pair that the store before it does not have."""
    before = shown_pairs(edit.before, edit.kept)
    after = shown_pairs(edit.after, edit.kept)
    return all([pair in before[part] for part in (0, 1) for pair in after[part]])


def answers(edit, before, after, mask, other):
    """Whether a value is a lot of the store before an edit that will do for a lot of the store after it."""
    if not is_lot(edit.before, other):
        return False
    found = before.mask_of(other)
    if before.content(found) != after.content(mask):
        return False
    lot = after.names_in(mask)
    if not all([(name in lot) == (name in other) for name in edit.kept]):
        return False
    return all([before.is_done(cell, found) for cell in after.done_cells(mask)])


def table_holds(edit, thing):
    """Whether a value is a table of an edit."""
    if not isinstance(thing, tuple) or not shows_no_more(edit):
        return False
    before, after = Lattice(edit.before), Lattice(edit.after)
    count = 0
    for mask in lot_masks(after):
        # There may be far too many lots, so the first line that is missing or wrong ends it.
        if count == len(thing) or not is_pair(thing[count]):
            return False
        lot, other = thing[count]
        if lot != after.names_in(mask) or not answers(edit, before, after, mask, other):
            return False
        count += 1
    return count == len(thing)


def combined(table, other):
    """The table of two edits, from the tables of the first one and of the one that follows it."""
    leads = {lot: first for lot, first in table}
    return tuple([(lot, leads[middle]) for lot, middle in other])


def lifted(edit, context, table):
    """The table of an edit within a context, from a table of the edit."""
    leads = {lot: first for lot, first in table}
    added = {name: True for name, _ in context.changes}
    around = context.around(edit.after, edit.kept)
    lines = []
    for lot in lots(around):
        first = leads[tuple([name for name in lot if name not in added])]
        lines.append((lot, tuple(sorted(first + tuple([name for name in lot if name in added])))))
    return tuple(lines)
