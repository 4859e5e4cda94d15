"""The lots of a store: what can be on the disk after a failure."""

from heldparts.errors import NoLot
from heldparts.forms import are_names_in
from heldparts.lattices import Lattice, lot_masks


def is_lot(store, thing):
    """Whether a value is a lot of a store."""
    # A longer one has a name twice or one that is no name of a change.
    if not isinstance(thing, tuple) or len(thing) > len(store):
        return False
    if not are_names_in(thing, store):
        return False
    mask = sum([1 << store.places[name] for name in thing])
    return all([store.masks[store.places[name]] & ~mask == 0 for name in thing])


def lots(store):
    """Yield all lots of a store, those with fewer changes first, those with equally many ascending."""
    lattice = Lattice(store)
    for mask in lot_masks(lattice):
        yield lattice.names_in(mask)


def closure(store, names):
    """The least lot that has these names of changes."""
    lattice = Lattice(store)
    return lattice.names_in(lattice.closure(lattice.mask_of(names)))


def content(store, lot):
    """The content of a lot."""
    if not is_lot(store, lot):
        raise NoLot(lot)
    lattice = Lattice(store)
    return lattice.content(lattice.mask_of(lot))


def done_cells(store, lot):
    """The cells that are done in a lot, ascending."""
    if not is_lot(store, lot):
        raise NoLot(lot)
    lattice = Lattice(store)
    return lattice.done_cells(lattice.mask_of(lot))
