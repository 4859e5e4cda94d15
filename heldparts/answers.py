"""Which lots of one store fit what the integers of lots of another one tell, for many of these at once."""

from heldparts.fitting import least_from

# Bits of integers that are looked up together: few enough that most of them are seen again, if there are many integers.
MOST_BITS = 10
FEW = 40


def cell_table(coder, frame, cell):
    """What each value of a cell, done or not, asks of a lot: a mask that it must have, and one that it must not have.

    The second one stands above the first one, with a bit between. The lot must have the changes up to the first one
    that leaves the value, and should not have the next one; but perhaps a later one leaves the value, too. What cannot
    be is a bit that stands in both masks.
    """
    count = len(frame.names) + 1
    never = (1 << (count - 1)) | (1 << (2 * count - 1))
    table = [never] * (2 * len(coder.all_values))
    line = frame.lines[cell]
    barred = 0
    for place, value in line[::-1]:
        at = coder.ranks[value]
        table[at] = frame.upto[place] | barred
        barred = 1 << (place + count)
    last, value = line[-1]
    table[coder.ranks[value] + 1] = frame.upto[last]
    return table


def items_of(coder, frame):
    """What each part of an integer asks of a lot: `(shift, width, table)`, from the lowest part to the highest one."""
    count = len(frame.names) + 1
    found = []
    for at, name in enumerate(coder.kept[::-1]):
        place = frame.places[name]
        found.append((at, 1, [1 << (place + count), frame.upto[place]]))
    for cell in coder.cells[::-1]:
        found.append((coder.shifts[cell], coder.width, cell_table(coder, frame, cell)))
    return found


def groups_of(items):
    """Items in groups that are looked up together."""
    bits = sum([width for _, width, _ in items])
    count = max(1, -(-bits // MOST_BITS))
    size = max(1, -(-len(items) // count))
    return [items[at:at + size] for at in range(0, len(items), size)]


def asked_by(part, items):
    """What some bits of an integer, those of some items, ask of a lot."""
    wish = 0
    for _, width, table in items:
        wish = wish | table[part & ((1 << width) - 1)]
        part = part >> width
    return wish


def wishes_of(items, codes):
    """What each integer asks of a lot: both masks, one above the other."""
    found = [0] * len(codes)
    if len(codes) < FEW:
        for shift, width, table in items:
            mask = (1 << width) - 1
            found = [wish | table[(code >> shift) & mask] for wish, code in zip(found, codes)]
        return found
    for group in groups_of(items):
        shift = group[0][0]
        mask = (1 << sum([width for _, width, _ in group])) - 1
        parts = [(code >> shift) & mask for code in codes]
        known = {}
        for part in parts:
            if part not in known:
                known[part] = asked_by(part, group)
        found = [wish | known[part] for wish, part in zip(found, parts)]
    return found


def least_lots(coder, frame, codes):
    """For each integer the mask of the least lot that fits it, up to the first one that none fits: None."""
    count = len(frame.names) + 1
    every = (1 << count) - 1
    last = 1 << (count - 1)
    found = []
    for code, wish in zip(codes, wishes_of(items_of(coder, frame), codes)):
        mask = wish & every
        if mask & (wish >> count) != 0:
            # Perhaps a value is left once more by a later change.
            mask = None if mask & last != 0 else least_from(frame, coder.content(code), mask)
            if mask is not None and mask & frame.mask_of(coder.names_lacking(code)) != 0:
                mask = None
        found.append(mask)
        if mask is None:
            break
    return found
