"""Modules, random ones among them, and what point 25 to 28 say of them once more, word by word."""

import random

from heldparts.modules import Module
from tests.lot_model import Model
from tests.model import pairs_before
from tests.samples import X, Y

MAKE = ("put", ((Y, 1),), (), "h")
SAFE = ("not", ("and", ("same", ("cell", X), 1), ("same", ("cell", Y), 0)))
DRAWER = Module(((X, 2, 0), (Y, 2, 0)), ("h",), (("add", 1, (MAKE, ("put", ((X, 1),), ("h",), None))),), (SAFE, ()))
LOOSE = Module(DRAWER.cells, ("h",), (("add", 1, (MAKE, ("put", ((X, 1),), (), None))),), (SAFE, ()))
# A log of two entries with a head: the head moves behind the entry, and what is shown is one of the earlier states.
A, B, HEAD = (3, 0), (4, 0), (5, 0)
JOURNAL = Module(
    ((A, 3, 0), (B, 3, 0), (HEAD, 3, 0)), ("e", "f"),
    (("add", 2, (
        ("if", ("same", ("cell", HEAD), 0),
         (("put", ((A, ("plus", ("input",), 1)),), (), "e"), ("put", ((HEAD, 1),), ("e",), "f")),
         (("if", ("same", ("cell", HEAD), 1),
           (("put", ((B, ("plus", ("input",), 1)),), ("f",), "e"), ("put", ((HEAD, 2),), ("e", "f"), None)), ()),)),)),
     ("forget", 1, (("release", "e"),))),
    (("not", ("less", 2, ("cell", HEAD))), (("pick", ("less", 0, ("cell", HEAD)), ("cell", A), 0),
                                          ("pick", ("less", 1, ("cell", HEAD)), ("cell", B), 0))))
SLOPPY = Module(
    JOURNAL.cells, ("e", "f"),
    (("add", 2, (("put", ((A, ("plus", ("input",), 1)),), (), "e"), ("put", ((HEAD, 1),), ("e",), "f"))),
     ("clear", 1, (("put", ((HEAD, 0),), (), None),))),
    JOURNAL.promise)


def random_expression(source, cells, depth, has_input):
    """An expression over cells, at most so deep."""
    kinds = ["number", "cell", "cell"] + (["input"] if has_input else [])
    if depth > 1:
        kinds += ["plus", "minus", "times", "pick"]
    kind = source.choice(kinds)
    if kind == "number":
        return source.choice([0, 1, 2, 3, 20])
    if kind == "cell":
        return ("cell", source.choice(cells))
    if kind == "input":
        return ("input",)
    if kind == "pick":
        return ("pick", random_test(source, cells, depth - 1, has_input),
                random_expression(source, cells, depth - 1, has_input), random_expression(source, cells, depth - 1, has_input))
    return (kind, random_expression(source, cells, depth - 1, has_input), random_expression(source, cells, depth - 1, has_input))


def random_test(source, cells, depth, has_input):
    """A test over cells, at most so deep."""
    kind = source.choice(["less", "same", "less", "same", "not", "and"] if depth > 2 else ["less", "same"])
    if kind == "not":
        return ("not", random_test(source, cells, depth - 1, has_input))
    if kind == "and":
        return ("and", random_test(source, cells, depth - 1, has_input), random_test(source, cells, depth - 1, has_input))
    return (kind, random_expression(source, cells, depth - 1, has_input), random_expression(source, cells, depth - 1, has_input))


def random_body(source, cells, handles, depth, most):
    """Some statements."""
    found = []
    for _ in range(source.randint(0, most)):
        kind = source.choice(["put", "put", "put", "put", "if", "release"])
        if kind == "put":
            block = source.choice(cells)[0]
            near = [cell for cell in cells if cell[0] == block]
            written = sorted(source.sample(near, source.randint(1, len(near))))
            writes = tuple((cell, random_expression(source, cells, 3, True)) for cell in written)
            after = tuple(handle for handle in handles if source.random() < 0.4)
            found.append(("put", writes, after, source.choice((None,) + handles * 2)))
        elif kind == "if" and depth > 0:
            found.append(("if", random_test(source, cells, 3, True), random_body(source, cells, handles, depth - 1, 2),
                          random_body(source, cells, handles, depth - 1, 2)))
        elif kind == "release" and handles:
            found.append(("release", source.choice(handles)))
    return tuple(found)


def random_module(seed, sizes=(1, 2, 2, 3), most=3, places=((0, 0), (0, 1), (1, 0), (2, 0)), shown=2):
    """A module with a promise that often holds for a while."""
    source = random.Random(seed)
    names = sorted(source.sample(places, source.randint(1, len(places))))
    cells = []
    for cell in names:
        size = source.choice(sizes)
        cells.append((cell, size, source.randrange(size)))
    handles = tuple(sorted(source.sample(["a", "h", "k", "zz"], source.randint(0, 3))))
    operations = tuple(
        (name, source.randint(1, 2), random_body(source, names, handles, 2, most))
        for name in sorted(source.sample(["add", "do", "put", "x", "z"], source.randint(0, 3))))
    shows = tuple(random_expression(source, names, 2, False) for _ in range(source.randint(0, shown)))
    test = source.choice([("same", 0, 0), ("not", random_test(source, names, 3, False)), random_test(source, names, 2, False)])
    return Module(tuple(cells), handles, operations, (test, shows))


def value(expression, content, number):
    """The value of an expression on a content, a dict."""
    if isinstance(expression, int):
        return expression
    word, *parts = expression
    if word == "cell":
        return content[parts[0]]
    if word == "input":
        return number
    if word == "pick":
        return value(parts[1] if truth(parts[0], content, number) else parts[2], content, number)
    left, right = (value(part, content, number) for part in parts)
    return {"plus": left + right, "minus": left - right, "times": left * right}[word]


def truth(test, content, number):
    word, *parts = test
    if word == "not":
        return not truth(parts[0], content, number)
    if word == "and":
        return truth(parts[0], content, number) and truth(parts[1], content, number)
    left, right = (value(part, content, number) for part in parts)
    return left < right if word == "less" else left == right


def nth_name(number):
    """The n-th name, by counting."""
    names = [chr(97 + at) for at in range(26)]
    while len(names) <= number:
        names += [first + second for first in names if len(first) == len(names[-1]) for second in names[:26]]
    return names[number]


class Run:
    """A module at work on a store to which nothing is ever written, by the words of point 26."""

    def __init__(self, module):
        self.module = module
        self.disk = tuple((cell, first) for cell, _, first in module.cells)
        self.sizes = {cell: size for cell, size, _ in module.cells}
        self.memory = dict(self.disk)
        self.changes = []
        self.pairs = set()
        self.holding = {}
        self.past = {self.shown(self.memory)}

    def shown(self, content):
        return tuple(value(part, content, 0) for part in self.module.promise[1])

    def do(self, name, number):
        body = next(body for other, _, body in self.module.operations if other == name)
        self.execute(body, number)
        self.past.add(self.shown(self.memory))
        return self

    def execute(self, body, number):
        for word, *parts in body:
            if word == "release":
                self.holding.pop(parts[0], None)
            elif word == "if":
                self.execute(parts[1] if truth(parts[0], self.memory, number) else parts[2], number)
            else:
                self.put(*parts, number)

    def put(self, writes, after, handle, number):
        values = tuple((cell, value(part, self.memory, number) % self.sizes[cell]) for cell, part in writes)
        name = nth_name(len(self.changes))
        cells = dict(values)
        ahead = {other for other, had in self.changes if set(dict(had)) & set(cells)}
        ahead |= {self.holding[other] for other in after if other in self.holding}
        ahead |= {first for first, last in self.pairs if last in ahead}
        self.changes.append((name, values))
        self.pairs |= {(first, name) for first in ahead}
        self.memory.update(cells)
        if handle is not None:
            self.holding[handle] = name

    def model(self):
        return Model(self.disk, tuple(sorted(self.changes)), self.pairs)

    def is_kept_by(self, content):
        """Whether the promise holds for a content."""
        values = dict(content)
        return truth(self.module.promise[0], values, 0) and self.shown(values) in self.past


def run(module, row):
    made = Run(module)
    for name, number in row:
        made.do(name, number)
    return made


def ties_of(made):
    return tuple((last, first) for first, last in made.pairs)


def random_row(source, module, most):
    if not module.inputs:
        return ()
    return tuple(source.choice(module.inputs) for _ in range(source.randint(0, most)))


def closed(made):
    """Whether the pairs of a run are closed, as they must be."""
    names = [name for name, _ in made.changes]
    return made.pairs == pairs_before(names, ties_of(made))


def lots_of(made):
    """All lots of a run, each reached from smaller ones by a change more."""
    ahead = {name: frozenset(first for first, last in made.pairs if last == name) for name, _ in made.changes}
    found = {frozenset()}
    level = [frozenset()]
    while level:
        more = {lot | {name} for lot in level for name in ahead if name not in lot and ahead[name] <= lot}
        found |= more
        level = list(more)
    return sorted([tuple(sorted(lot)) for lot in found], key=lambda lot: (len(lot), lot))


def left_by(made, lot):
    """The content of a lot of a run, and the cells that are done in it."""
    values, done = dict(made.disk), {cell: True for cell in made.memory}
    for name, writes in made.changes:
        # The changes come in the order in which they were made, which is that of every row.
        for cell, value in writes:
            done[cell] = name in lot
            if name in lot:
                values[cell] = value
    return tuple(sorted(values.items())), tuple(sorted(cell for cell in done if done[cell]))


def state_of(made):
    """The state of a run (point 28)."""
    handles = {name: handle for handle, name in made.holding.items()}
    best = {}
    for lot in lots_of(made):
        content, done = left_by(made, lot)
        key = (content, tuple(sorted(handles[name] for name in lot if name in handles)))
        best.setdefault(key, []).append(done)
    entries = []
    for (content, names), dones in best.items():
        entries += {(content, names, done) for done in dones if not any(set(other) > set(done) for other in dones)}
    return tuple(sorted(made.memory.items())), tuple(sorted(entries)), tuple(sorted(made.past))


def breaking(made):
    """The lots of a run for whose contents its promise does not hold."""
    return [lot for lot in lots_of(made) if not made.is_kept_by(left_by(made, lot)[0])]


def search(module, most):
    """All reached states with a shortest row to each, if there are no more than a number; None otherwise."""
    first = run(module, ())
    found = {state_of(first): ()}
    waiting = [()]
    for row in waiting:
        if breaking(run(module, row)):
            continue
        for operation in module.inputs:
            state = state_of(run(module, row + (operation,)))
            if state not in found:
                found[state] = row + (operation,)
                waiting.append(row + (operation,))
                if len(found) > most:
                    return None
    return found
