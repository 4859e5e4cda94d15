"""Batches, in which each block is written once, as a whole."""

from heldparts.codes import Names
from heldparts.edits import shown_pairs
from heldparts.lots import mask_in
from heldparts.orders import places_in
from heldparts.strangers import frames_around, stranger_holds
from heldparts.witnesses import free_cell_in, free_names, ring_stranger


def blocks_by_name(store):
    """For each change its block."""
    return {name: writes[0][0][0] for name, writes in store.changes}


def block_masks(frame):
    """For each block of the changes of a store, ascending, the mask of its changes."""
    masks = {}
    for name, writes in frame.changes:
        block = writes[0][0][0]
        masks[block] = masks.get(block, 0) | (1 << frame.places[name])
    return {block: masks[block] for block in sorted(masks)}


def whole_masks(frame, masks):
    """For each block the mask of the least batch lot with its changes."""
    whole = {}
    for block in masks:
        ahead = frame.closure(masks[block])
        whole[block] = sum([mask for mask in list(masks.values()) if mask & ahead != 0])
    # All walks from block to block over the first one, over the first two and so on.
    for middle in masks:
        for block in masks:
            if whole[block] & masks[middle] != 0:
                whole[block] = whole[block] | whole[middle]
    return whole


def batch_units(frame):
    """What a batch lot has together: `(own, need, count)`, each behind those whose changes it needs.

    Blocks that stand behind one another are one unit.
    """
    masks = block_masks(frame)
    whole = whole_masks(frame, masks)
    units = []
    for most in sorted({whole[block] for block in masks}):
        own = sum([masks[block] for block in masks if whole[block] == most])
        units.append((len(places_in(most)), most ^ own, own))
    return [(own, need, len(places_in(own))) for _, need, own in sorted(units)]


def batch_levels(frame):
    """Yield lists of the masks of batch lots with equally many changes, in the order of lots."""
    units = batch_units(frame)
    # By how many changes they have: the lots that are found, and the first unit that may join each of them.
    waiting = {0: [(0, 0)]}
    for count in range(len(frame.names) + 1):
        level = waiting.pop(count, [])
        for mask, first in level:
            for at in range(first, len(units)):
                own, need, more = units[at]
                if need & ~mask == 0:
                    waiting.setdefault(count + more, []).append((mask | own, at + 1))
        yield sorted([mask for mask, _ in level], reverse=True)


def batch_lots(store):
    """Yield all lots that have of each block all changes or none, in the order of lots."""
    frame = store.frame
    names = Names(frame.names)
    for level in batch_levels(frame):
        yield from names.tuples(level)


def parts_of(row):
    """All ascending tuples of members of an ascending tuple, the shorter ones first."""
    level = [((), 0)]
    found = []
    while len(level) > 0:
        found = found + [part for part, _ in level]
        level = [(part + (row[at],), at + 1) for part, first in level for at in range(first, len(row))]
    return found


def batch_lines(edit):
    """The lines by which an edit is unnoticed in batches, if it is."""
    before, after = blocks_by_name(edit.before), blocks_by_name(edit.after)
    choices = parts_of([block for block in edit.before.blocks if block not in edit.after.blocks])
    lines = []
    for lot in batch_lots(edit.after):
        blocks = {after[name]: True for name in lot}
        for free in choices:
            other = tuple([name for name in before if before[name] in blocks or before[name] in free])
            lines.append((lot, free, other))
    return tuple(lines)


def missing_need(edit):
    """A block and one that it needs in the store before an edit, but not in the one after it, or None.

    If there is none, each batch line leads to a lot. That has the same content: of a block it has all changes, as in
    the memories, which are alike, or none; and the same kept names, as these are in blocks of both stores.
    """
    before, after = edit.before.frame, edit.after.frame
    masks, later = block_masks(before), block_masks(after)
    whole, left = whole_masks(before, masks), whole_masks(after, later)
    for block in masks:
        for other in masks:
            if other != block and whole[block] & masks[other] != 0:
                if block not in later or other not in later or left[block] & later[other] == 0:
                    return block, other
    return None


def need_stranger(edit, block, other):
    """A stranger for a block that needs another one in the store before an edit only.

    An added change in each of both tells whether a batch lot has these blocks.
    """
    late, early = free_names(edit.before, edit.after, 2)
    cells = {late: free_cell_in(edit.before, block), early: free_cell_in(edit.before, other)}
    disk = tuple(sorted([(cells[late], 0), (cells[early], 0)]))
    names = [late]
    after = edit.after.frame
    masks = block_masks(after)
    if block in masks:
        names = names + list(after.names_in(whole_masks(after, masks)[block]))
    changes = tuple([(name, ((cells[name], 1),)) for name in (late, early)])
    return "lot", (disk, changes, ()), tuple(sorted(names))


def examine_batch(edit):
    """The batch lines, or a stranger in a batch."""
    if edit.before.memory != edit.after.memory:
        return ("memory",)
    shown, others = shown_pairs(edit.before, edit.kept), shown_pairs(edit.after, edit.kept)
    if shown != others:
        return ring_stranger(edit.before, edit.after, shown, others)
    found = missing_need(edit)
    if found is not None:
        return need_stranger(edit, found[0], found[1])
    return "lines", batch_lines(edit)


def batch_mask_in(frame, thing):
    """The mask of a value that is a batch lot of the store of a frame, otherwise None."""
    mask = mask_in(frame, thing)
    if mask is None or not all([part & mask in (0, part) for part in list(block_masks(frame).values())]):
        return None
    return mask


def has_batch_content(frame, wanted):
    """Whether a batch lot of the store of a frame has a content."""
    masks = block_masks(frame)
    had = barred = 0
    for cell, value in wanted:
        line = frame.lines[cell]
        mask = masks.get(cell[0], 0)
        if value != line[0][1]:
            if mask == 0:
                return False
            had = had | mask
        if value != line[-1][1]:
            barred = barred | mask
    whole = whole_masks(frame, masks)
    needed = [whole[block] for block in masks if masks[block] & had != 0]
    return all([mask & barred == 0 for mask in needed])


def batch_stranger_holds(edit, thing):
    """Whether a value is a stranger of an edit in a batch."""
    if not isinstance(thing, tuple) or len(thing) != 3:
        return stranger_holds(edit, thing)
    if thing[0] != "lot":
        return False
    before, after = frames_around(edit, thing[1])
    if before is None or after is None:
        return False
    mask = batch_mask_in(after, thing[2])
    return mask is not None and not has_batch_content(before, after.content(mask))
