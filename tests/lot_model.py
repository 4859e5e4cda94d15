"""The promises about lots, wishes, contexts, edits and views once more, word by word, all lots tried one by one."""

from itertools import chain, combinations

from tests.model import pairs_before, row_in


class Model:
    """A disk, changes and all pairs (earlier, later), from which everything else follows."""

    def __init__(self, disk, changes, pairs):
        self.disk = tuple(disk)
        self.cells = tuple(cell for cell, _ in disk)
        self.changes = {name: dict(writes) for name, writes in changes}
        self.names = tuple(sorted(self.changes))
        self.pairs = pairs
        self.rows = {cell: row_in(cell, changes, pairs) for cell in self.cells}

    def is_lot(self, names):
        return all(earlier in names for earlier, later in self.pairs if later in names)

    def lots(self):
        """All sets of names tried one by one, in the order of point 12."""
        sets = chain.from_iterable(combinations(self.names, count) for count in range(len(self.names) + 1))
        return [names for names in sets if self.is_lot(names)]

    def content(self, lot):
        content = []
        for cell, value in self.disk:
            there = [name for name in self.rows[cell] if name in lot]
            content.append((cell, self.changes[there[-1]][cell] if there else value))
        return tuple(content)

    def memory(self):
        return self.content(self.names)

    def done(self, lot):
        return tuple(cell for cell in self.cells if all(name in lot for name in self.rows[cell]))

    def closure(self, names):
        wanted = set(names)
        return min((lot for lot in self.lots() if wanted <= set(lot)), key=len)

    def shown(self, kept):
        """Point 11."""
        changes = [(first, second) for first in kept for second in kept if (first, second) in self.pairs]
        cells = []
        for first in kept:
            for cell in self.cells:
                if any(first == name or (first, name) in self.pairs for name in self.rows[cell]):
                    cells.append((first, cell))
        return tuple(sorted(changes)), tuple(sorted(cells))

    def entries(self, kept):
        """All entries of point 17."""
        return [(self.content(lot), tuple(name for name in lot if name in kept), self.done(lot)) for lot in self.lots()]


def model_of(store):
    return Model(store.disk, store.changes, pairs_before(store.names, store.ties))


def view_entries(entries):
    """The entries that are not covered, ascending."""
    entries = set(entries)
    return tuple(sorted(
        entry for entry in entries
        if not any(other[:2] == entry[:2] and set(other[2]) > set(entry[2]) for other in entries)))


def fits(model, lot, seen, has, lacks, done):
    """Point 15."""
    content = dict(model.content(lot))
    return (all(content[cell] == value for cell, value in seen) and set(has) <= set(lot)
            and not set(lacks) & set(lot) and set(done) <= set(model.done(lot)))


def is_refusal(model, steps, seen, has, lacks, done):
    """Point 16, for a tuple of steps of the right forms, read step by step."""
    values = dict(seen)
    forced = []

    def never(cell, upto):
        row = model.rows[cell]
        first = max([at + 1 for at, name in enumerate(row) if name in forced], default=0)
        had = [dict(model.disk)[cell]] + [model.changes[name][cell] for name in row]
        return first, all(had[count] != values[cell] for count in range(first, upto + 1))

    for step in steps[:-1]:
        word, name = step[0], step[1]
        if word == "has":
            holds = name in has
        elif word == "done":
            holds = step[2] in done and step[2] in model.changes[name]
        elif word == "before":
            holds = (name, step[2]) in model.pairs and step[2] in forced
        elif word == "value":
            holds = step[2] in values and name in model.rows[step[2]]
            if holds:
                at = model.rows[step[2]].index(name)
                first, missing = never(step[2], at)
                holds = at >= first and missing
        else:
            holds = False
        if not holds:
            return False
        forced.append(name)
    if len(steps[-1]) != 2:
        return False
    word, what = steps[-1]
    if word == "lacks":
        return what in lacks and what in forced
    return word == "never" and what in values and never(what, len(model.rows[what]))[1]


def suits(parts, store, kept):
    """Point 8, for parts that are a context."""
    disk, changes, ties = parts
    model = model_of(store)
    added = [name for name, _ in changes]
    cells = [cell for cell, _ in disk]
    if list(kept) != sorted(set(kept)) or not set(kept) <= set(model.names):
        return False
    if set(cells) & set(model.cells) or set(added) & set(model.names):
        return False
    if any(cell not in cells and cell not in model.cells for _, writes in changes for cell, _ in writes):
        return False
    for tie in ties:
        if tie[0] == tie[1] or not any(name in added for name in tie):
            return False
        if not all(name in added or name in kept for name in tie):
            return False
    walks = pairs_before(added, [tie for tie in ties if tie[0] in added and tie[1] in added])
    for name, writes in changes:
        for other, others in changes:
            if name != other and dict(writes).keys() & dict(others).keys():
                if (name, other) not in walks and (other, name) not in walks:
                    return False
    return True


def around(parts, store):
    """The store in a context that suits it (point 9), or None if that closes a ring."""
    disk, changes, ties = parts
    model = model_of(store)
    pairs = [(later, earlier) for earlier, later in model.pairs] + list(ties)
    for name, writes in changes:
        for cell, _ in writes:
            if cell in model.cells:
                pairs += [(name, earlier) for earlier in model.rows[cell]]
    everything = tuple(store.changes) + tuple(changes)
    order = pairs_before([name for name, _ in everything], pairs)
    if any(first == second for first, second in order):
        return None
    return Model(sorted(store.disk + tuple(disk)), everything, order)


def new_lots(before, after):
    """The lots of one model whose content no lot of the other one has."""
    contents = {before.content(lot) for lot in before.lots()}
    return [lot for lot in after.lots() if after.content(lot) not in contents]


def noticed(edit, parts):
    """Point 10, for a context that suits the edit: the first of the three that applies, or None."""
    before, after = around(parts, edit.before), around(parts, edit.after)
    if before is None or after is None:
        return None if before is None and after is None else ("ring",)
    if before.memory() != after.memory():
        return ("memory",)
    found = new_lots(before, after)
    return ("lot", found[0]) if found else None


def is_stranger(edit, thing):
    """Point 14, for a value of the right form."""
    if thing == ("memory",):
        return model_of(edit.before).memory() != model_of(edit.after).memory()
    if not suits(thing[1], edit.before, edit.kept) or not suits(thing[1], edit.after, edit.kept):
        return False
    before, after = around(thing[1], edit.before), around(thing[1], edit.after)
    if thing[0] == "ring":
        return (before is None) != (after is None)
    return before is not None and after is not None and thing[2] in new_lots(before, after)


def will_do(edit, before, after, lot, other):
    """Whether a lot of the store before the edit will do for one of the store after it (point 13)."""
    return (before.content(other) == after.content(lot) and set(before.done(other)) >= set(after.done(lot))
            and [name for name in edit.kept if name in lot] == [name for name in edit.kept if name in other])


def table_choices(edit):
    """For each lot of the store after the edit all lots that will do, or None if there is no table."""
    before, after = model_of(edit.before), model_of(edit.after)
    had = before.shown(edit.kept)
    if any(pair not in had[part] for part in (0, 1) for pair in after.shown(edit.kept)[part]):
        return None
    others = before.lots()
    lines = []
    for lot in after.lots():
        choices = [other for other in others if will_do(edit, before, after, lot, other)]
        if not choices:
            return None
        lines.append((lot, choices))
    return lines


def least_table(edit):
    """The least table, or None."""
    lines = table_choices(edit)
    if lines is None:
        return None
    return tuple((lot, min(choices, key=len)) for lot, choices in lines)
