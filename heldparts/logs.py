"""Logs: what was done to a store, entry by entry, and whether it was right."""

from heldparts.edits import Edit
from heldparts.errors import NoEdit, NoStore, NoWrite
from heldparts.forms import are_names_in, ascends, is_change, is_pair, merged
from heldparts.stores import Store


def after_add(store, kept, entry):
    """The store and kept names after a change is added, or None if it cannot be."""
    _, change, after = entry
    if not (is_change(change) and isinstance(after, tuple)):
        return None
    if not (all([name in kept for name in after]) and ascends(after)):
        return None
    name, writes = change
    try:
        more = store.with_change(name, writes, *after)
    except NoStore:
        return None
    return more, merged(kept, (name,))


def after_release(store, kept, name):
    """The store and kept names after a change is released, or None if it cannot be."""
    if name not in kept:
        return None
    return store, tuple([other for other in kept if other != name])


def after_write(store, kept, names):
    """The store and kept names after changes are written, or None if they cannot be."""
    if not are_names_in(names, store):
        return None
    try:
        rest = store.written(*names)
    except NoWrite:
        return None
    return rest, tuple([name for name in kept if name in rest])


def edit_to(store, kept, other):
    """The edit to another store with the same kept names, or None if there is none."""
    if not isinstance(other, Store):
        return None
    try:
        edit = Edit(store, other, kept)
    except NoEdit:
        return None
    return edit


def after_entry(store, kept, entry):
    """The store and kept names after an entry that is no edit, or None if it fails."""
    if isinstance(entry, tuple) and len(entry) == 3 and entry[0] == "add":
        return after_add(store, kept, entry)
    if is_pair(entry) and entry[0] == "release":
        return after_release(store, kept, entry[1])
    if is_pair(entry) and entry[0] == "write":
        return after_write(store, kept, entry[1])
    return None


def audit(store, kept, log, *, limit=500):
    """Go through a log: the store and kept names at its end, or the first entry that fails."""
    for index, entry in enumerate(log):
        if is_pair(entry) and entry[0] == "edit":
            edit = edit_to(store, kept, entry[1])
            if edit is None:
                return "wrong", index
            told = edit.examine(limit=limit)
            if told[0] != "table":
                return "wrong", index, told
            store = edit.after
        else:
            found = after_entry(store, kept, entry)
            if found is None:
                return "wrong", index
            store, kept = found
    return "right", store, kept
