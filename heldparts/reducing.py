"""Rows of edits that make two changes one or leave one out, and stores that are reduced by them."""

from heldparts.errors import NoEdit, Noticed, TooMany
from heldparts.kinds import Drop, Join
from heldparts.shapes import Shapes, lowest


def edit_of(store, kept, part):
    """The edit of a store that a part of a row asks for."""
    word, *names = part
    if not all([name in store for name in names]):
        raise NoEdit("name")
    if word == "join":
        return Join(store, names[0], names[1], kept)
    return Drop(store, names[0], kept)


def after_row(store, kept, row, *, limit=500):
    """The store to which a row of unnoticed edits leads."""
    for part in row:
        edit = edit_of(store, kept, part)
        told = edit.examine(limit=limit)
        if told[0] != "table":
            raise Noticed(told)
        store = edit.after
    return store


def named(store, step):
    """The part of a row for a step between shapes, in which each part has the last of its names."""
    names = [store.names[~lowest(mask)] for mask in sorted(step, key=lowest)]
    return ("join" if len(names) == 2 else "drop", *names)


def reduced(store, kept, *, limit=200):
    """A row of edits that reduces a store, and the store to which it leads."""
    shapes = Shapes(store, kept)
    rows = {shapes.first: ()}
    found = [shapes.first]
    stores = {}
    done = 0
    while done < len(found):
        shape = found[done]
        for value in shapes.labelings(shape):
            stores[value] = True
        if len(stores) > limit:
            raise TooMany(limit)
        for step, more in shapes.leads(shape):
            if more not in rows:
                rows[more] = rows[shape] + (named(store, step),)
                found.append(more)
        done += 1
    best = min(found, key=len)
    return rows[best], shapes.store_of(best)
