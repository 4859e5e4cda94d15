"""The lots that fit a wish, and why there are none."""

from heldparts.forms import is_cell, is_pair
from heldparts.lattices import Lattice
from heldparts.lots import is_lot
from heldparts.orders import places_in


def first_match(steps, count, value):
    """The least number of changes, from a count on, after which a cell has a value, or None."""
    for more in range(count, len(steps)):
        if steps[more] == value:
            return more
    return None


def forced_at_once(lattice, has, done):
    """What the names to have and the cells to be done force: the mask, and a step for each of them."""
    mask = 0
    steps = []
    for name in has:
        mask = mask | lattice.upto[lattice.places[name]]
        steps.append(("has", name))
    for cell in done:
        row = lattice.rows[cell]
        if len(row) > 0:
            mask = mask | lattice.upto[row[-1]]
            steps.append(("done", lattice.names[row[-1]], cell))
    return mask, steps


def forced(lattice, seen, has, done):
    """What a wish forces: the mask of a lot, or None if a cell never has its value; and the steps to it.

    The steps leave out the changes that stand before others. The last one tells which cell never has its value.
    """
    mask, steps = forced_at_once(lattice, has, done)
    more = True
    while more:
        more = False
        for cell, value in seen:
            count = lattice.count_in(cell, mask)
            needed = first_match(lattice.steps[cell], count, value)
            if needed is None:
                steps.append(("never", cell))
                return None, steps
            if needed > count:
                place = lattice.rows[cell][needed - 1]
                mask = mask | lattice.upto[place]
                steps.append(("value", lattice.names[place], cell))
                more = True
    return mask, steps


def least_fit(lattice, seen, has, lacks, done):
    """The mask of the least lot that fits a wish, or None."""
    mask, _ = forced(lattice, seen, has, done)
    if mask is None or mask & lattice.mask_of(lacks) != 0:
        return None
    return mask


def greatest_fit(lattice, seen, lacks):
    """The mask of the greatest lot that fits a wish, if there is one."""
    barred = lattice.mask_of(lacks)
    more = True
    while more:
        more = False
        mask = sum([1 << at for at, upto in enumerate(lattice.upto) if upto & barred == 0])
        for cell, value in seen:
            count = lattice.count_in(cell, mask)
            if lattice.steps[cell][count] != value:
                # With one change less of the row the cell may have the value.
                barred = barred | (1 << lattice.rows[cell][count - 1])
                more = True
    return mask


def spelled_out(lattice, steps):
    """Steps with those for the changes that stand before others put between them."""
    told = []
    mask = 0
    for step in steps:
        told.append(step)
        if step[0] != "never":
            place = lattice.places[step[1]]
            for other in places_in(lattice.upto[place] & ~(mask | (1 << place))):
                told.append(("before", lattice.names[other], step[1]))
            mask = mask | lattice.upto[place]
    return told


def fitting(store, seen=(), *, has=(), lacks=(), done=()):
    """The least and the greatest lot that fit a wish, or a refusal."""
    lattice = Lattice(store)
    mask, steps = forced(lattice, seen, has, done)
    told = spelled_out(lattice, steps)
    if mask is None:
        return "none", tuple(told)
    wrong = lattice.names_in(mask & lattice.mask_of(lacks))
    if len(wrong) > 0:
        return "none", tuple(told + [("lacks", wrong[0])])
    return "lots", lattice.names_in(mask), lattice.names_in(greatest_fit(lattice, seen, lacks))


def fits(store, lot, seen=(), *, has=(), lacks=(), done=()):
    """Whether a lot fits a wish."""
    if not is_lot(store, lot) or not all([name in lot for name in has]) or any([name in lot for name in lacks]):
        return False
    lattice = Lattice(store)
    mask = lattice.mask_of(lot)
    if not all([lattice.steps[cell][lattice.count_in(cell, mask)] == value for cell, value in seen]):
        return False
    return all([lattice.is_done(cell, mask) for cell in done])


def forced_count(store, cell, known):
    """How many changes the row of a cell has up to the last one that is forced."""
    row = store.row(cell)
    return max([at + 1 for at, name in enumerate(row) if name in known], default=0)


def forces_value(store, name, cell, seen, known):
    """Whether a seen value forces a change, behind those that are known to be forced."""
    if not (is_cell(cell) and cell in seen and name in store.row(cell)):
        return False
    count = forced_count(store, cell, known)
    at = store.row(cell).index(name)
    return at >= count and seen[cell] not in store.row_values(cell)[count:at + 1]


def forces(store, step, wish, known):
    """Whether a value is a step that forces the change that it names."""
    seen, has, _, done = wish
    if is_pair(step):
        return step[0] == "has" and step[1] in has
    if not isinstance(step, tuple) or len(step) != 3:
        return False
    word, name, why = step
    if word == "done":
        return is_cell(why) and why in done and name in store.row(why)
    if word == "before":
        return name in store and isinstance(why, str) and why in known and store.is_before(name, why)
    return word == "value" and forces_value(store, name, why, seen, known)


def refuses(store, step, wish, known):
    """Whether a value is a step that ends a refusal."""
    seen, _, lacks, _ = wish
    if not is_pair(step):
        return False
    word, what = step
    if word == "lacks":
        return what in lacks and what in known
    if word != "never" or not is_cell(what) or what not in seen:
        return False
    return seen[what] not in store.row_values(what)[forced_count(store, what, known):]


def refusal_holds(store, thing, seen=(), *, has=(), lacks=(), done=()):
    """Whether a value is a refusal of a wish."""
    if not isinstance(thing, tuple) or len(thing) == 0:
        return False
    wish = ({cell: value for cell, value in seen}, has, lacks, done)
    known = {}
    for step in thing[:-1]:
        if not forces(store, step, wish, known):
            return False
        known[step[1]] = True
    return refuses(store, thing[-1], wish, known)
