"""The lots of a store: what can be on the disk after a failure."""

from heldparts.codes import Names, levels, plain_steps
from heldparts.errors import NoLot
from heldparts.forms import are_names_in


def mask_in(frame, thing):
    """The mask of a value that is a lot of the store of a frame, otherwise None."""
    # A longer one has a name twice or one that is no name of a change.
    if not isinstance(thing, tuple) or len(thing) > len(frame.names):
        return None
    places = frame.places
    mask = far = 0
    last = len(places)
    for name in thing:
        if not isinstance(name, str) or name not in places:
            return None
        at = places[name]
        # Places descend where names ascend.
        if at >= last:
            return None
        last = at
        mask = mask | (1 << at)
        far = far | frame.masks[at]
    return mask if far & ~mask == 0 else None


def is_lot(store, thing):
    """Whether a value is a lot of a store."""
    return mask_in(store.frame, thing) is not None


def lots(store):
    """Yield all lots of a store, those with fewer changes first, those with equally many ascending."""
    frame = store.frame
    names = Names(frame.names)
    first = names.every
    steps = plain_steps(frame)
    for level in levels(first, steps):
        yield from names.of_codes(level, 0)


def closure(store, names):
    """The least lot that has these names of changes."""
    frame = store.frame
    return frame.names_in(frame.closure(frame.mask_of(names)))


def content(store, lot):
    """The content of a lot."""
    mask = mask_in(store.frame, lot)
    if mask is None:
        raise NoLot(lot)
    return store.frame.content(mask)


def done_cells(store, lot):
    """The cells that are done in a lot, ascending."""
    mask = mask_in(store.frame, lot)
    if mask is None:
        raise NoLot(lot)
    return store.frame.done_cells(mask)
