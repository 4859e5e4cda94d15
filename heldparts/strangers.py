"""Strangers, who notice an edit."""

from heldparts.answers import least_lots
from heldparts.codes import Coder, values_in
from heldparts.contexts import Context
from heldparts.errors import NoContext, Ring, TooMany
from heldparts.fitting import least_from
from heldparts.frames import Frame
from heldparts.lots import mask_in

# So many lots are listed at any rate, as this is sooner done than to ask which ones there may be.
FEW = 20


def suits_edit(context, edit):
    """Whether a context suits an edit."""
    # Both stores have the same cells, and the kept names are names of both.
    if not context.suits_kept(edit.before, edit.kept):
        return False
    return context.suits_names(edit.before) and context.suits_names(edit.after)


def context_in(thing):
    """The context with the parts that a value is, or None."""
    if not isinstance(thing, tuple) or len(thing) != 3:
        return None
    try:
        context = Context(thing[0], thing[1], thing[2])
    except NoContext:
        return None
    return context


def frame_around(context, store):
    """The frame of a store in a context that suits it, or None if the context closes a ring."""
    disk, changes, ties = context.parts_around(store)
    try:
        frame = Frame(disk, changes, ties)
    except Ring:
        return None
    return frame


def frames_around(edit, thing):
    """The frames of the stores of an edit in the context with the parts that a value is.

    Each is None if the context closes a ring with it; both are None if the value is no context that suits the edit.
    """
    context = context_in(thing)
    if context is None or not suits_edit(context, edit):
        return None, None
    return frame_around(context, edit.before), frame_around(context, edit.after)


def leaves_new(before, after, lot):
    """Whether a value is a lot of one store with a content that no lot of another one has."""
    mask = mask_in(after, lot)
    return mask is not None and least_from(before, after.content(mask), 0) is None


def stranger_holds(edit, thing):
    """Whether a value is a stranger of an edit."""
    if thing == ("memory",):
        return edit.before.memory != edit.after.memory
    if not isinstance(thing, tuple) or not 2 <= len(thing) <= 3:
        return False
    if thing[0] != ("ring" if len(thing) == 2 else "lot"):
        return False
    before, after = frames_around(edit, thing[1])
    if len(thing) == 2:
        return (before is None) != (after is None)
    return before is not None and after is not None and leaves_new(before, after, thing[2])


def contents_known(coder, frame, codes):
    """The contents that lots of the store of a frame have, as keys of a dict.

    If it has far more lots than there are integers, these are contents of the integers up to the first one that it does
    not have.
    """
    mask = coder.key_mask
    try:
        others = coder.codes(frame, 2 * len(codes) + FEW)
    except TooMany:
        contents = list({code & mask: True for code in sorted(codes)})
        return {code: True for code, lot in zip(contents, least_lots(coder, frame, contents)) if lot is not None}
    return {code & mask: True for code in others}


def noticed_by(edit, context, *, limit=500):
    """How a context notices an edit, or None if it does not."""
    if not suits_edit(context, edit):
        raise NoContext("suits")
    before, after = frame_around(context, edit.before), frame_around(context, edit.after)
    if before is None or after is None:
        return None if before is None and after is None else ("ring",)
    if any([before.lines[cell][-1][1] != after.lines[cell][-1][1] for cell in before.cells]):
        return ("memory",)
    coder = Coder(before.cells, (), values_in(before, after))
    codes = coder.codes(after, limit)
    known = contents_known(coder, before, codes)
    new = [code for code in codes if code & coder.key_mask not in known]
    if len(new) == 0:
        return None
    # The bits for changes tell which ones a lot does not have.
    every = (1 << len(after.names)) - 1
    return "lot", after.names_in(every & ~(min(new) >> coder.top))


def written_part(disk, changes):
    """The part of a content whose cells some change writes."""
    written = {cell: True for _, writes in changes for cell, _ in writes}
    return tuple([part for part in disk if part[0] in written])


def without(stranger, name):
    """What remains of a stranger of the third kind without one of its added changes."""
    word, (disk, changes, ties), lot = stranger
    rest = tuple([change for change in changes if change[0] != name])
    context = (written_part(disk, rest), rest, tuple([tie for tie in ties if name not in tie]))
    return word, context, tuple([other for other in lot if other != name])


def pruned(edit, stranger):
    """A stranger of the third kind without all that it does not need."""
    word, (disk, changes, ties), lot = stranger
    rest = (word, (written_part(disk, changes), changes, ties), lot)
    more = True
    while more:
        more = False
        names = [name for name, _ in rest[1][1]]
        for name in names[::-1]:
            tried = without(rest, name)
            if stranger_holds(edit, tried):
                rest = tried
                more = True
    return rest
