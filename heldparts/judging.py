"""Judging modules: whether they keep their promises, for all rows of operations and wherever a failure comes."""

from heldparts.codes import Coder, Names, levels, values_in
from heldparts.errors import NoModule, TooMany
from heldparts.fitting import least_from
from heldparts.forms import is_int, is_pair
from heldparts.lots import content, is_lot
from heldparts.machines import Machine, Search
from heldparts.meanings import steps_of
from heldparts.modules import Module, history
from heldparts.promises import promise_holds, shown_by, values_on

MOST_OPERATIONS = 60


def first_state(module):
    """The state of a module at first."""
    cells = tuple([cell for cell, _ in module.start])
    return module.start, ((module.start, (), cells),), (shown_by(module, values_on(module.start)),)


def next_state(module, state, name, number):
    """The state to which an operation with an input leads from a state."""
    memory, entries, past = state
    machine = Machine(module)
    frame = machine.next_frame(machine.frame_of(memory, entries), (name, number))
    left = machine.content(frame[0])
    shown = shown_by(module, values_on(left))
    return left, machine.entries_of(frame), past if shown in past else tuple(sorted(past + (shown,)))


def is_good(module, state):
    """Whether the promise holds for the content of each entry of a state."""
    _, entries, past = state
    return all([promise_holds(module, given, past) for given in {entry[0]: True for entry in entries}])


def searched(module, limit):
    """All reached states of a module, if there are not too many, nor only breaks behind too many operations."""
    search = Search(module)
    search.reach(limit)
    if search.broken_state is not None and len(search.row_to(search.broken_state)) > MOST_OPERATIONS:
        raise TooMany(limit)
    return search


def judge(module, *, limit=200):
    """A paper of a module, or a row of operations after which its promise does not hold, with a lot."""
    search = searched(module, limit)
    if search.broken_state is None:
        return "keeps", search.paper()
    row = search.row_to(search.broken_state)
    frame = history(module, *row).frame
    return "breaks", row, frame.names_in(least_from(frame, search.broken_content(), 0))


def paper_holds(module, thing):
    """Whether a value is a paper of a module."""
    # A module may have very many states, and a value very many parts: most of those that are no paper end here.
    if not isinstance(thing, tuple) or first_state(module) not in thing:
        return False
    search = Search(module)
    try:
        search.reach(len(thing))
    except TooMany:
        return False
    if search.broken_state is not None:
        return False
    paper = search.paper()
    # True equals 1, but is written in another way.
    return thing == paper and repr(thing) == repr(paper)


def is_row(module, thing):
    """Whether a value is a row of operations of a module, not too long."""
    if not isinstance(thing, tuple) or len(thing) > MOST_OPERATIONS:
        return False
    return all([is_pair(part) and is_int(part[1]) and part in module.inputs for part in thing])


def past_of(module, row):
    """What a module shows at first and after each operation of a row, ascending."""
    values = values_on(module.start)
    past = {shown_by(module, values): True}
    for name, number in row:
        # The steps change the values to those behind them.
        steps_of(module.bodies[name], module.sizes, values, number)
        past[shown_by(module, values)] = True
    return tuple(sorted(past))


def break_holds(module, thing):
    """Whether a value is a break of a module."""
    if not (is_pair(thing) and is_row(module, thing[0])):
        return False
    row, lot = thing
    store = history(module, *row)
    if not is_lot(store, lot):
        return False
    return not promise_holds(module, content(store, lot), past_of(module, row))


def breaking_lots(module, *row):
    """Yield the lots of the history of a row for whose contents the promise does not hold."""
    frame = history(module, *row).frame
    past = past_of(module, row)
    coder = Coder(frame.cells, (), values_in(frame))
    names = Names(frame.names)
    first, steps = coder.first_code(frame), coder.steps(frame)
    known = {}
    for level in levels(first, steps):
        for code in level:
            key = code & coder.key_mask
            if key not in known:
                known[key] = promise_holds(module, coder.content(code), past)
        wrong = [code for code in level if not known[code & coder.key_mask]]
        yield from names.of_codes(wrong, coder.top)


def body_without(body, at):
    """Statements without the name of a number in their `after` tuples, and how many such names there are."""
    found = []
    count = 0
    for statement in body:
        if statement[0] == "put":
            word, writes, after, handle = statement
            rest = tuple([name for place, name in enumerate(after) if count + place != at])
            found.append((word, writes, rest, handle))
            count = count + len(after)
        elif statement[0] == "if":
            word, test, first, second = statement
            left, many = body_without(first, at - count)
            other, more = body_without(second, at - count - many)
            found.append((word, test, left, other))
            count = count + many + more
        else:
            found.append(statement)
    return tuple(found), count


def module_without(module, at):
    """A module without the name of a number in the `after` tuples of its puts, and how many such names there are."""
    operations = []
    count = 0
    for name, size, body in module.operations:
        rest, many = body_without(body, at - count)
        operations.append((name, size, rest))
        count = count + many
    return Module(module.cells, module.handles, tuple(operations), module.promise), count


def spared(module, *, limit=200):
    """A module without the names that its puts need not stand behind to keep its promise."""
    if searched(module, limit).broken_state is not None:
        raise NoModule("promise")
    _, count = module_without(module, -1)
    for at in range(count - 1, -1, -1):
        tried, _ = module_without(module, at)
        if searched(tried, limit).broken_state is None:
            module = tried
    return module
