"""Strangers, who notice an edit."""

from heldparts.answers import least_lots
from heldparts.codes import Coder, Names, values_in
from heldparts.contexts import Context
from heldparts.errors import NoContext, Ring
from heldparts.fitting import least_from
from heldparts.lots import content, is_lot


def suits_edit(context, edit):
    """Whether a context suits an edit."""
    return context.suits(edit.before, edit.kept) and context.suits(edit.after, edit.kept)


def context_in(thing):
    """The context with the parts that a value is, or None."""
    if not isinstance(thing, tuple) or len(thing) != 3:
        return None
    try:
        context = Context(thing[0], thing[1], thing[2])
    except NoContext:
        return None
    return context


def store_around(context, store, kept):
    """The store in a context that suits it, or None if the context closes a ring."""
    try:
        around = context.around(store, kept)
    except Ring:
        return None
    return around


def leaves_new(before, after, lot):
    """Whether a lot of one store has a content that no lot of another one has."""
    return least_from(before.frame, content(after, lot), 0) is None


def stores_around(edit, thing):
    """The stores of an edit in the context with the parts that a value is.

    Each is None if the context closes a ring with it; both are None if the value is no context that suits the edit.
    """
    context = context_in(thing)
    if context is None or not suits_edit(context, edit):
        return None, None
    return store_around(context, edit.before, edit.kept), store_around(context, edit.after, edit.kept)


def stranger_holds(edit, thing):
    """Whether a value is a stranger of an edit."""
    if thing == ("memory",):
        return edit.before.memory != edit.after.memory
    if not isinstance(thing, tuple) or not 2 <= len(thing) <= 3:
        return False
    if thing[0] != ("ring" if len(thing) == 2 else "lot"):
        return False
    before, after = stores_around(edit, thing[1])
    if len(thing) == 2:
        return (before is None) != (after is None)
    return before is not None and after is not None and is_lot(after, thing[2]) and leaves_new(before, after, thing[2])


def noticed_by(edit, context, *, limit=500):
    """How a context notices an edit, or None if it does not."""
    if not suits_edit(context, edit):
        raise NoContext("suits")
    before = store_around(context, edit.before, edit.kept)
    after = store_around(context, edit.after, edit.kept)
    if before is None or after is None:
        return None if before is None and after is None else ("ring",)
    if before.memory != after.memory:
        return ("memory",)
    coder = Coder(before.cells, (), values_in(before.frame, after.frame))
    codes = sorted(coder.codes(after.frame, limit))
    contents = [code & coder.key_mask for code in codes]
    # Each content once, by the first lot that has it.
    known = list({code: True for code in contents})
    masks = least_lots(coder, before.frame, known)
    if masks[-1] is not None:
        return None
    first = contents.index(known[len(masks) - 1])
    return "lot", Names(after.names).of_codes([codes[first]], coder.top)[0]


def written_part(disk, changes):
    """The part of a content whose cells some change writes."""
    written = {cell: True for _, writes in changes for cell, _ in writes}
    return tuple([part for part in disk if part[0] in written])


def without(stranger, name):
    """What remains of a stranger of the third kind without one of its added changes."""
    word, (disk, changes, ties), lot = stranger
    rest = tuple([change for change in changes if change[0] != name])
    context = (written_part(disk, rest), rest, tuple([tie for tie in ties if name not in tie]))
    return word, context, tuple([other for other in lot if other != name])


def pruned(edit, stranger):
    """A stranger of the third kind without all that it does not need."""
    word, (disk, changes, ties), lot = stranger
    rest = (word, (written_part(disk, changes), changes, ties), lot)
    more = True
    while more:
        more = False
        names = [name for name, _ in rest[1][1]]
        for name in names[::-1]:
            tried = without(rest, name)
            if stranger_holds(edit, tried):
                rest = tried
                more = True
    return rest
