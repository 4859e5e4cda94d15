"""The forms of what modules are made of: expressions, tests, statements and operations."""

from heldparts.forms import ascends, is_cell, is_int, is_name, is_pair

MOST_NUMBER = 20
MOST_SIZE = 9
MOST_INPUTS = 4
MOST_HANDLES = 3


def begins_with_word(thing):
    """Whether a value is a tuple that begins with a string."""
    return isinstance(thing, tuple) and len(thing) > 0 and isinstance(thing[0], str)


def is_cell_in(thing, cells):
    """Whether a value is one of the cells that are the keys of a dict."""
    return is_cell(thing) and thing in cells


def is_expression(thing, cells, has_input):
    """Whether a value is an expression over these cells, perhaps with `("input",)`."""
    if is_int(thing):
        return 0 <= thing <= MOST_NUMBER
    if not begins_with_word(thing):
        return False
    word = thing[0]
    if word == "cell":
        return len(thing) == 2 and is_cell_in(thing[1], cells)
    if word == "input":
        return len(thing) == 1 and has_input
    if word == "pick":
        return (len(thing) == 4 and is_test(thing[1], cells, has_input)
                and is_expression(thing[2], cells, has_input) and is_expression(thing[3], cells, has_input))
    return (word in ("plus", "minus", "times") and len(thing) == 3
            and is_expression(thing[1], cells, has_input) and is_expression(thing[2], cells, has_input))


def is_test(thing, cells, has_input):
    """Whether a value is a test over these cells, perhaps with `("input",)`."""
    if not begins_with_word(thing):
        return False
    word = thing[0]
    if word in ("less", "same"):
        return (len(thing) == 3 and is_expression(thing[1], cells, has_input)
                and is_expression(thing[2], cells, has_input))
    if word == "not":
        return len(thing) == 2 and is_test(thing[1], cells, has_input)
    return (word == "and" and len(thing) == 3 and is_test(thing[1], cells, has_input)
            and is_test(thing[2], cells, has_input))


def are_sized_cells(thing):
    """Whether a value is a nonempty tuple of `(cell, size, first)`, ascending by distinct cells."""
    if not isinstance(thing, tuple) or len(thing) == 0:
        return False
    for part in thing:
        if not (isinstance(part, tuple) and len(part) == 3 and is_cell(part[0])):
            return False
        if not (is_int(part[1]) and 1 <= part[1] <= MOST_SIZE and is_int(part[2]) and 0 <= part[2] < part[1]):
            return False
    return ascends([part[0] for part in thing])


def are_handles(thing):
    """Whether a value is an ascending tuple of a few names."""
    if not isinstance(thing, tuple) or len(thing) > MOST_HANDLES:
        return False
    return all([is_name(part) for part in thing]) and ascends(thing)


def are_operations(thing):
    """Whether a value is a tuple of `(name, size, body)`, ascending by distinct names, with any bodies."""
    if not isinstance(thing, tuple):
        return False
    for part in thing:
        if not (isinstance(part, tuple) and len(part) == 3 and is_name(part[0])):
            return False
        if not (is_int(part[1]) and 1 <= part[1] <= MOST_INPUTS):
            return False
    return ascends([part[0] for part in thing])


def are_handles_of(thing, handles):
    """Whether a value is an ascending tuple of some handles."""
    return isinstance(thing, tuple) and all([part in handles for part in thing]) and ascends(thing)


def are_put_writes(thing, cells):
    """Whether a value is a nonempty tuple of `(cell, expression)`, ascending by distinct cells of one block."""
    if not isinstance(thing, tuple) or len(thing) == 0:
        return False
    for part in thing:
        if not (is_pair(part) and is_cell_in(part[0], cells) and is_expression(part[1], cells, True)):
            return False
    return ascends([part[0] for part in thing]) and thing[0][0][0] == thing[-1][0][0]


def is_put(thing, cells, handles):
    """Whether a tuple that begins with "put" is a statement."""
    if len(thing) != 4:
        return False
    _, writes, after, handle = thing
    return are_put_writes(writes, cells) and are_handles_of(after, handles) and (handle is None or handle in handles)


def is_statement(thing, cells, handles):
    """Whether a value is a statement over these cells and handles."""
    if not begins_with_word(thing):
        return False
    word = thing[0]
    if word == "put":
        return is_put(thing, cells, handles)
    if word == "if":
        return (len(thing) == 4 and is_test(thing[1], cells, True)
                and is_body(thing[2], cells, handles) and is_body(thing[3], cells, handles))
    return word == "release" and len(thing) == 2 and thing[1] in handles


def is_body(thing, cells, handles):
    """Whether a value is a tuple of statements over these cells and handles."""
    return isinstance(thing, tuple) and all([is_statement(part, cells, handles) for part in thing])


def is_promise(thing, cells):
    """Whether a value is a test with a tuple of expressions over these cells, without an input."""
    if not (is_pair(thing) and is_test(thing[0], cells, False) and isinstance(thing[1], tuple)):
        return False
    return all([is_expression(part, cells, False) for part in thing[1]])
