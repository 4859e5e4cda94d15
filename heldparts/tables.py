"""Tables, by which nobody can ever notice an edit."""

from heldparts.codes import Coder, Names, values_in
from heldparts.edits import shown_pairs
from heldparts.errors import TooMany
from heldparts.forms import is_pair
from heldparts.lots import lots, mask_in


def shows_no_more(edit):
    """Whether the store after an edit has no shown pair that the store before it does not have."""
    before = shown_pairs(edit.before, edit.kept)
    after = shown_pairs(edit.after, edit.kept)
    return all([pair in before[part] for part in (0, 1) for pair in after[part]])


def answers(coder, frame, code, mask):
    """Whether a lot of the store before an edit will do for the integer of a lot of the store after it."""
    for cell in coder.cells:
        count = frame.count_in(cell, mask)
        line = frame.lines[cell]
        part = code >> coder.shifts[cell]
        if coder.ranks[line[count][1]] != part & coder.rank_mask or (part & 1 == 1 and count + 1 < len(line)):
            return False
    return all([(mask >> frame.places[name]) & 1 == (code >> at) & 1 for at, name in enumerate(coder.kept[::-1])])


def table_holds(edit, thing):
    """Whether a value is a table of an edit."""
    if not isinstance(thing, tuple) or not shows_no_more(edit):
        return False
    before, after = edit.before.frame, edit.after.frame
    coder = Coder(before.cells, edit.kept, values_in(before, after))
    try:
        codes = sorted(coder.codes(after, len(thing)))
    except TooMany:
        return False
    if len(codes) != len(thing):
        return False
    for line, lot, code in zip(thing, Names(after.names).of_codes(codes, coder.top), codes):
        if not is_pair(line) or line[0] != lot:
            return False
        mask = mask_in(before, line[1])
        if mask is None or not answers(coder, before, code, mask):
            return False
    return True


def combined(table, other):
    """The table of two edits, from the tables of the first one and of the one that follows it."""
    leads = {lot: first for lot, first in table}
    return tuple([(lot, leads[middle]) for lot, middle in other])


def lifted(edit, context, table):
    """The table of an edit within a context, from a table of the edit."""
    leads = {lot: first for lot, first in table}
    added = {name: True for name, _ in context.changes}
    around = context.around(edit.after, edit.kept)
    lines = []
    for lot in lots(around):
        first = leads[tuple([name for name in lot if name not in added])]
        lines.append((lot, tuple(sorted(first + tuple([name for name in lot if name in added])))))
    return tuple(lines)
