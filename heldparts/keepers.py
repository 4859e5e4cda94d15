"""Keepers: several modules at work on one store, which may be tied, edited and written meanwhile."""

from heldparts.codes import Coder, Names, levels, values_in
from heldparts.errors import NoEdit, Noticed, NoStore, NotHeld
from heldparts.forms import ascends
from heldparts.meanings import Course, steps_of
from heldparts.promises import promise_holds, shown_by, values_on
from heldparts.stores import Store

# Names that edits give have this length, so operations never give them.
LONG = 8


def disk_of(modules):
    """The disk at first of modules with distinct cells."""
    disk = sorted([part for module in modules for part in module.start])
    if not ascends([cell for cell, _ in disk]):
        raise NoStore("cell")
    return tuple(disk)


def last_writers(store):
    """For each cell that changes write the last one of its row."""
    return {cell: store.row(cell)[-1] for cell in store.cells if len(store.row(cell)) > 0}


def still_held(held, store):
    """What handles hold of the changes of a store."""
    return tuple([entry for entry in held if entry[2] in store])


class Trial:
    """A trial of a keeper: if an error ends its block, the keeper is again as it was."""

    def __init__(self, keeper):
        self.keeper = keeper
        self.store = keeper.store
        self.held = keeper.held
        self.made = keeper.made
        self.pasts = keeper.pasts
        self.given = keeper.given

    def __enter__(self):
        self.store = self.keeper.store
        self.held = self.keeper.held
        self.made = self.keeper.made
        self.pasts = self.keeper.pasts
        self.given = self.keeper.given
        return self.keeper

    def __exit__(self, kind, value, trace):
        keeper = self.keeper
        if kind is not None:
            keeper.store = self.store
            keeper.held = self.held
            keeper.made = self.made
            keeper.pasts = self.pasts
            keeper.given = self.given


class Keeper:
    """Modules with distinct cells, and one store for all of them."""

    def __init__(self, *modules):
        self.store = Store.empty(disk_of(modules))
        self.held = ()
        self.made = 0
        self.modules = modules
        # For each module what it has shown, and all names that edits have given.
        self.pasts = tuple([(shown_by(module, values_on(module.start)),) for module in modules])
        self.given = ()

    def do(self, module, name, number=0):
        """Do an operation of a module."""
        program = self.modules[module]
        values = values_on(self.store.memory)
        steps = steps_of(program.bodies[name], program.sizes, values, number)
        holding = {handle: change for owner, handle, change in self.held if owner == module}
        course = Course(last_writers(self.store), holding, self.made)
        course.follow(steps)
        store = self.store
        if len(course.changes) > 0:
            changes = store.changes + tuple(course.changes)
            store = Store(store.disk, changes, store.ties + tuple(course.ties))
        others = [entry for entry in self.held if entry[0] != module]
        own = [(module, handle, change) for handle, change in course.holding.items()]
        past, shown = self.pasts[module], shown_by(program, values)
        self.store = store
        self.held = tuple(sorted(others + own))
        self.made = course.made
        if shown not in past:
            self.pasts = self.pasts[:module] + (past + (shown,),) + self.pasts[module + 1:]

    def change_held(self, module, handle):
        """The name of the change that a handle of a module holds."""
        for owner, other, name in self.held:
            if owner == module and other == handle:
                return name
        raise NotHeld((module, handle))

    def tie(self, module, handle, other, earlier):
        """Tie the change that a handle holds behind the one that another handle holds."""
        last = self.change_held(module, handle)
        first = self.change_held(other, earlier)
        self.store = self.store.tied(last, first)

    def write(self, *names):
        """Write some changes."""
        self.store = self.store.written(*names)
        self.held = still_held(self.held, self.store)

    def edit(self, edit):
        """Edit the store; nobody may notice it."""
        if edit.before != self.store:
            raise NoEdit("store")
        if not all([name in edit.kept for _, _, name in self.held]):
            raise NoEdit("kept")
        names = [name for name in edit.after.names if name not in edit.before]
        if any([len(name) < LONG or name in self.given for name in names]):
            raise NoEdit("name")
        told = edit.examine()
        if told[0] != "table":
            raise Noticed(told)
        self.store = edit.after
        self.given = self.given + tuple(names)
        return told[1]

    def broken(self):
        """Yield `(module, lot)` for each module and each lot for whose content its promise does not hold."""
        frame = self.store.frame
        coder = Coder(frame.cells, (), values_in(frame))
        names = Names(frame.names)
        first, steps = coder.first_code(frame), coder.steps(frame)
        for at, module in enumerate(self.modules):
            # Only the module's own cells count.
            own = sum([coder.rank_mask << coder.shifts[cell] for cell in module.sizes])
            known = {}
            for level in levels(first, steps):
                for code in level:
                    if code & own not in known:
                        known[code & own] = promise_holds(module, coder.content(code), self.pasts[at])
                wrong = [code for code in level if not known[code & own]]
                for lot in names.of_codes(wrong, coder.top):
                    yield at, lot

    def trial(self):
        """A trial, for use with `with`."""
        return Trial(self)

    def trying(self, action):
        """What a function returns that is called with the keeper, in a trial."""
        with self.trial():
            told = action(self)
        return told

    def attempt(self, *deeds):
        """Do deeds in order, all or none."""
        with self.trial():
            for deed in deeds:
                self.perform(deed)

    def perform(self, deed):
        """Do a deed."""
        word, *parts = deed
        if word == "do":
            self.do(*parts)
        elif word == "tie":
            self.tie(*parts)
        elif word == "write":
            names = parts[0]
            self.write(*names)
        else:
            self.edit(parts[0])
