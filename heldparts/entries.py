"""The entries of the view of a store, and their text, from the integers of its lots."""

from heldparts.codes import Coder, values_in
from heldparts.numerals import numeral
from heldparts.texts import cell_text

# Done cells are looked up together in groups that are small enough for most of what is looked up to be seen again.
GROUP = 6


def done_by_key(coder, frame, limit):
    """For each content with kept names of a lot of a store, as bits, the integers of its lots, taken together by `|`.

    Lots with the same content and names have, all together, the same content and names, too, so one has all cells done
    that are done in one of them.
    """
    mask = coder.key_mask
    found = {}
    for code in coder.codes(frame, limit):
        key = code & mask
        found[key] = found.get(key, 0) | code
    return found


def entry_codes(coder, frame, limit):
    """The entries of the view of a store as integers without bits for changes, each by its content and names."""
    every = (1 << coder.top) - 1
    found = done_by_key(coder, frame, limit)
    return {key: found[key] & every for key in found}


def names_rank(mask, count):
    """A number that ascends as the tuples of names do for whose bits a mask stands, the first name highest."""
    if mask == 0:
        return 0
    # Names up to the last one that is there are told first; of those that begin alike, the one with more comes later.
    return (((2 << count) - mask - (mask & -mask)) << count) | mask


def ordered_keys(coder, keys):
    """Keys in the order of entries: by contents, and then by their kept names."""
    count = coder.base
    if count < 2 or len({key >> count for key in keys}) == len(keys):
        return sorted(keys)
    every = (1 << count) - 1
    ranks = {key & every: 0 for key in keys}
    ranks = {mask: names_rank(mask, count) for mask in ranks}
    wide = 2 * count + 2
    ranked = {((key >> count) << wide) | ranks[key & every]: key for key in keys}
    return [ranked[rank] for rank in sorted(ranked)]


def columns(coder, frame, keys):
    """For each cell the parts of the contents of keys, and the values as text, each filled to the same length."""
    mask = coder.rank_mask
    numerals = {coder.ranks[value]: numeral(value) for value in coder.all_values}
    longest = max([len(text) for text in list(numerals.values())], default=0)
    parts, words = [], []
    for cell in coder.cells:
        shift = coder.shifts[cell]
        # Each value of a row is the one of some entry.
        pairs = {coder.ranks[value]: (cell, value) for _, value in frame.lines[cell]}
        texts = numerals
        if longest > 1:
            wide = max([len(numerals[rank]) for rank in pairs])
            texts = {rank: numerals[rank].rjust(wide) for rank in pairs}
        ranks = [(key >> shift) & mask for key in keys]
        parts.append([pairs[rank] for rank in ranks])
        words.append([texts[rank] for rank in ranks])
    return parts, words


def names_told(kept, keys):
    """The kept names of keys, and the middle parts of their lines."""
    if len(kept) == 0:
        return [()] * len(keys), ["|  |"] * len(keys)
    last = len(kept) - 1
    every = (1 << len(kept)) - 1
    masks = [key & every for key in keys]
    names, texts = {}, {}
    for mask in masks:
        if mask not in names:
            names[mask] = tuple([name for at, name in enumerate(kept) if (mask >> (last - at)) & 1 == 1])
            texts[mask] = " ".join(names[mask])
    wide = max([len(text) for text in list(texts.values())])
    texts = {mask: f"| {texts[mask].ljust(wide)} |" for mask in texts}
    return [names[mask] for mask in masks], [texts[mask] for mask in masks]


def some_done(coder, cells, codes):
    """For integers the tuples of those of some cells that are done, and their texts."""
    bits = [(1 << coder.shifts[cell], cell, cell_text(cell)) for cell in cells]
    mask = sum([bit for bit, _, _ in bits])
    parts = [code & mask for code in codes]
    found, texts = {}, {}
    for part in parts:
        if part not in found:
            done = [(cell, text) for bit, cell, text in bits if part & bit != 0]
            found[part] = tuple([cell for cell, _ in done])
            texts[part] = " ".join([text for _, text in done])
    return [found[part] for part in parts], [texts[part] for part in parts]


def done_told(coder, codes):
    """The cells that are done for integers, and their texts."""
    found, texts = some_done(coder, coder.cells[:GROUP], codes)
    for at in range(GROUP, len(coder.cells), GROUP):
        more, others = some_done(coder, coder.cells[at:at + GROUP], codes)
        found = [cells + rest for cells, rest in zip(found, more)]
        texts = [text + " " + rest if text and rest else text + rest for text, rest in zip(texts, others)]
    return found, texts


def entries_of(frame, kept, limit):
    """The entries of the view of a store, and its text."""
    coder = Coder(frame.cells, kept, values_in(frame))
    found = done_by_key(coder, frame, limit)
    keys = ordered_keys(coder, found)
    parts, words = columns(coder, frame, keys)
    names, texts = names_told(kept, keys)
    dones, ends = done_told(coder, [found[key] for key in keys])
    contents = list(zip(*parts))
    if len(frame.cells) == 0:
        contents, words = [()] * len(keys), [[""] * len(keys)]
    lines = [" ".join(row) for row in zip(*words, texts, ends)]
    return tuple(zip(contents, names, dones)), "\n".join(lines)
