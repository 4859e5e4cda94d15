"""The lots that fit a wish, and why there are none."""

from heldparts.forms import is_cell, is_pair
from heldparts.lots import is_lot
from heldparts.orders import places_in


def first_match(line, count, value):
    """The least number of changes, from a count on, after which a cell has a value, or None."""
    for more in range(count, len(line)):
        if line[more][1] == value:
            return more
    return None


def forced_at_once(frame, has, done):
    """What the names to have and the cells to be done force: the mask, and a step for each of them."""
    mask = 0
    steps = []
    for name in has:
        mask = mask | frame.upto[frame.places[name]]
        steps.append(("has", name))
    for cell in done:
        place, _ = frame.lines[cell][-1]
        if place >= 0:
            mask = mask | frame.upto[place]
            steps.append(("done", frame.names[~place], cell))
    return mask, steps


def forced(frame, seen, has, done):
    """What a wish forces: the mask of a lot, or None if a cell never has its value; and the steps to it.

    The steps leave out the changes that stand before others. The last one tells which cell never has its value.
    """
    mask, steps = forced_at_once(frame, has, done)
    more = True
    while more:
        more = False
        for cell, value in seen:
            line = frame.lines[cell]
            count = frame.count_in(cell, mask)
            needed = first_match(line, count, value)
            if needed is None:
                steps.append(("never", cell))
                return None, steps
            if needed > count:
                place, _ = line[needed]
                mask = mask | frame.upto[place]
                steps.append(("value", frame.names[~place], cell))
                more = True
    return mask, steps


def least_from(frame, seen, mask):
    """The mask of the least lot with the seen values that has all changes of a lot, or None."""
    more = True
    while more:
        more = False
        for cell, value in seen:
            line = frame.lines[cell]
            count = len(line) - 1
            while count > 0 and (mask >> line[count][0]) & 1 == 0:
                count -= 1
            if line[count][1] != value:
                needed = first_match(line, count, value)
                if needed is None:
                    return None
                mask = mask | frame.upto[line[needed][0]]
                more = True
    return mask


def greatest_fit(frame, seen, lacks):
    """The mask of the greatest lot that fits a wish, if there is one."""
    barred = frame.mask_of(lacks)
    more = True
    while more:
        more = False
        mask = sum([1 << at for at in range(len(frame.masks)) if frame.upto[at] & barred == 0])
        for cell, value in seen:
            place, left = frame.lines[cell][frame.count_in(cell, mask)]
            if left != value:
                # With one change less of the row the cell may have the value.
                barred = barred | (1 << place)
                more = True
    return mask


def spelled_out(frame, steps):
    """Steps with those for the changes that stand before others put between them."""
    told = []
    mask = 0
    for step in steps:
        told.append(step)
        if step[0] != "never":
            place = frame.places[step[1]]
            for other in places_in(frame.masks[place] & ~mask)[::-1]:
                told.append(("before", frame.names[~other], step[1]))
            mask = mask | frame.upto[place]
    return told


def fitting(store, seen=(), *, has=(), lacks=(), done=()):
    """The least and the greatest lot that fit a wish, or a refusal."""
    frame = store.frame
    mask, steps = forced(frame, seen, has, done)
    if mask is None:
        return "none", tuple(spelled_out(frame, steps))
    wrong = frame.names_in(mask & frame.mask_of(lacks))
    if len(wrong) > 0:
        return "none", tuple(spelled_out(frame, steps) + [("lacks", wrong[0])])
    return "lots", frame.names_in(mask), frame.names_in(greatest_fit(frame, seen, lacks))


def fits(store, lot, seen=(), *, has=(), lacks=(), done=()):
    """Whether a lot fits a wish."""
    if not is_lot(store, lot) or not all([name in lot for name in has]) or any([name in lot for name in lacks]):
        return False
    frame = store.frame
    mask = frame.mask_of(lot)
    if not all([frame.lines[cell][frame.count_in(cell, mask)][1] == value for cell, value in seen]):
        return False
    return all([frame.is_done(cell, mask) for cell in done])


def forced_count(store, cell, known):
    """How many changes the row of a cell has up to the last one that is forced."""
    row = store.row(cell)
    return max([at + 1 for at, name in enumerate(row) if name in known], default=0)


def forces_value(store, name, cell, seen, known):
    """Whether a seen value forces a change, behind those that are known to be forced."""
    if not (is_cell(cell) and cell in seen and name in store.row(cell)):
        return False
    count = forced_count(store, cell, known)
    at = store.row(cell).index(name)
    return at >= count and seen[cell] not in store.row_values(cell)[count:at + 1]


def forces(store, step, wish, known):
    """Whether a value is a step that forces the change that it names."""
    seen, has, _, done = wish
    if is_pair(step):
        return step[0] == "has" and step[1] in has
    if not isinstance(step, tuple) or len(step) != 3:
        return False
    word, name, why = step
    if word == "done":
        return is_cell(why) and why in done and name in store.row(why)
    if word == "before":
        return name in store and isinstance(why, str) and why in known and store.is_before(name, why)
    return word == "value" and forces_value(store, name, why, seen, known)


def refuses(store, step, wish, known):
    """Whether a value is a step that ends a refusal."""
    seen, _, lacks, _ = wish
    if not is_pair(step):
        return False
    word, what = step
    if word == "lacks":
        return what in lacks and what in known
    if word != "never" or not is_cell(what) or what not in seen:
        return False
    return seen[what] not in store.row_values(what)[forced_count(store, what, known):]


def refusal_holds(store, thing, seen=(), *, has=(), lacks=(), done=()):
    """Whether a value is a refusal of a wish."""
    if not isinstance(thing, tuple) or len(thing) == 0:
        return False
    wish = ({cell: value for cell, value in seen}, has, lacks, done)
    known = {}
    for step in thing[:-1]:
        if not forces(store, step, wish, known):
            return False
        known[step[1]] = True
    return refuses(store, thing[-1], wish, known)
