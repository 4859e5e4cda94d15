"""Point 30 word by word: a keeper as all changes that wait, with all pairs of its order."""

from heldparts.forms import name_of
from heldparts.stores import Store
from tests.model import left_by, pairs_before
from tests.module_samples import truth, value


class KeeperModel:

    def __init__(self, modules):
        self.modules = modules
        self.disk = tuple(sorted((cell, first) for module in modules for cell, _, first in module.cells))
        self.memory = dict(self.disk)
        self.changes = {}
        self.pairs = set()
        self.holding = {}
        self.made = 0
        self.given = set()
        self.pasts = [{self.shown(at)} for at in range(len(modules))]

    def shown(self, at, values=None):
        values = self.memory if values is None else values
        return tuple(value(part, values, 0) for part in self.modules[at].promise[1])

    def do(self, at, name, number):
        module = self.modules[at]
        self.execute(at, next(body for other, _, body in module.operations if other == name), number)
        self.pasts[at].add(self.shown(at))

    def execute(self, at, body, number):
        for word, *parts in body:
            if word == "release":
                self.holding.pop((at, parts[0]), None)
            elif word == "if":
                self.execute(at, parts[1] if truth(parts[0], self.memory, number) else parts[2], number)
            else:
                self.put(at, *parts, number)

    def put(self, at, writes, after, handle, number):
        sizes = {cell: size for cell, size, _ in self.modules[at].cells}
        values = {cell: value(part, self.memory, number) % sizes[cell] for cell, part in writes}
        ahead = {other for other, had in self.changes.items() if set(had) & set(values)}
        ahead |= {self.holding[at, other] for other in after if (at, other) in self.holding}
        ahead |= {first for first, last in self.pairs if last in ahead}
        name = name_of(self.made)
        self.made += 1
        self.changes[name] = values
        self.pairs |= {(first, name) for first in ahead}
        self.memory.update(values)
        if handle is not None:
            self.holding[at, handle] = name

    def tie(self, later, earlier):
        ties = [(last, first) for first, last in self.pairs] + [(later, earlier)]
        self.pairs = pairs_before(list(self.changes), ties)

    def write(self, names):
        self.disk = left_by(names, self.disk, self.all_changes(), self.pairs)
        self.changes = {name: self.changes[name] for name in self.changes if name not in names}
        self.pairs = {pair for pair in self.pairs if not set(pair) & set(names)}
        self.holding = {key: name for key, name in self.holding.items() if name not in names}

    def take(self, store):
        """Have another store's changes and order."""
        self.given |= set(store.names) - set(self.changes)
        self.changes = {name: dict(writes) for name, writes in store.changes}
        self.pairs = pairs_before(store.names, store.ties)

    def all_changes(self):
        return tuple((name, tuple(sorted(writes.items()))) for name, writes in sorted(self.changes.items()))

    def store(self):
        return Store(self.disk, self.all_changes(), tuple((last, first) for first, last in self.pairs))

    def held(self):
        return tuple(sorted((at, handle, name) for (at, handle), name in self.holding.items()))

    def lots(self):
        ahead = {name: frozenset(first for first, last in self.pairs if last == name) for name in self.changes}
        found, level = {frozenset()}, [frozenset()]
        while level:
            level = list({lot | {name} for lot in level for name in ahead if name not in lot and ahead[name] <= lot})
            found |= set(level)
        return sorted([tuple(sorted(lot)) for lot in found], key=lambda lot: (len(lot), lot))

    def broken(self):
        lots = [(lot, dict(left_by(lot, self.disk, self.all_changes(), self.pairs))) for lot in self.lots()]
        return [(at, lot) for at, module in enumerate(self.modules) for lot, values in lots
                if not truth(module.promise[0], values, 0) or self.shown(at, values) not in self.pasts[at]]

    def can_write(self, names):
        blocks = {next(iter(self.changes[name]))[0] for name in names if name in self.changes}
        return (bool(names) and all(name in self.changes for name in names) and len(blocks) == 1
                and all(first in names for first, last in self.pairs if last in names))
