"""What modules show, and whether their promises hold."""

from heldparts.meanings import truth_of, value_of


def values_on(given):
    """The values of the cells of a content."""
    return {cell: value for cell, value in given}


def shown_by(module, values):
    """What a module shows, where its cells have these values."""
    return tuple([value_of(part, values, 0) for part in module.promise[1]])


def promise_holds(module, given, past):
    """Whether the promise of a module holds for a content, with a past."""
    values = values_on(given)
    return truth_of(module.promise[0], values, 0) and shown_by(module, values) in past
