"""The promises about batches once more, word by word, all sets of whole blocks tried one by one."""

from itertools import chain, combinations

from tests.lot_model import around, model_of, suits


def all_parts(row):
    """All parts of a row, the shorter ones first."""
    return list(chain.from_iterable(combinations(row, count) for count in range(len(row) + 1)))


def block_of(model, name):
    return next(iter(model.changes[name]))[0]


def blocks_of(model):
    return sorted({block_of(model, name) for name in model.names})


def names_in(model, blocks):
    return tuple(name for name in model.names if block_of(model, name) in blocks)


def batch_lots(model):
    """All sets of whole blocks that are lots, in the order of point 12."""
    found = [names_in(model, blocks) for blocks in all_parts(blocks_of(model))]
    return sorted([names for names in found if model.is_lot(names)], key=lambda lot: (len(lot), lot))


def batch_lines(edit):
    before, after = model_of(edit.before), model_of(edit.after)
    free = [block for block in blocks_of(before) if block not in blocks_of(after)]
    lines = []
    for lot in batch_lots(after):
        blocks = {block_of(after, name) for name in lot}
        for chosen in all_parts(free):
            lines.append((lot, chosen, names_in(before, blocks | set(chosen))))
    return tuple(lines)


def unnoticed(edit):
    """The criterion of point 23."""
    before, after = model_of(edit.before), model_of(edit.after)
    if before.memory() != after.memory() or before.shown(edit.kept) != after.shown(edit.kept):
        return False
    for lot, _, other in batch_lines(edit):
        if not before.is_lot(other) or before.content(other) != after.content(lot):
            return False
        if [name for name in edit.kept if name in lot] != [name for name in edit.kept if name in other]:
            return False
    return True


def new_lots(before, after):
    """The batch lots of one model whose content no batch lot of the other one has."""
    contents = {before.content(lot) for lot in batch_lots(before)}
    return [lot for lot in batch_lots(after) if after.content(lot) not in contents]


def noticed(edit, parts):
    """How a context that suits an edit notices it in a batch: the first of the three that applies, or None."""
    before, after = around(parts, edit.before), around(parts, edit.after)
    if before is None or after is None:
        return None if before is None and after is None else ("ring",)
    if before.memory() != after.memory():
        return ("memory",)
    found = new_lots(before, after)
    return ("lot", found[0]) if found else None


def is_stranger(edit, thing):
    """Point 24, for a value of the right form."""
    if thing == ("memory",):
        return model_of(edit.before).memory() != model_of(edit.after).memory()
    if not suits(thing[1], edit.before, edit.kept) or not suits(thing[1], edit.after, edit.kept):
        return False
    before, after = around(thing[1], edit.before), around(thing[1], edit.after)
    if thing[0] == "ring":
        return (before is None) != (after is None)
    return before is not None and after is not None and thing[2] in new_lots(before, after)
