"""The forms of cells, contents, names and changes, and the numbering of names."""

LETTERS = "abcdefghijklmnopqrstuvwxyz"


def is_int(thing):
    """Whether a value is an integer; True and False are none."""
    return isinstance(thing, int) and not isinstance(thing, bool)


def is_pair(thing):
    """Whether a value is a tuple of two."""
    return isinstance(thing, tuple) and len(thing) == 2


def ascends(row):
    """Whether a list or tuple of values that can be compared ascends, without duplicates."""
    return all([row[at] < row[at + 1] for at in range(len(row) - 1)])


def is_cell(thing):
    """Whether a value is a cell."""
    return is_pair(thing) and all([is_int(part) and part >= 0 for part in thing])


def is_write(thing):
    """Whether a value is a cell with a value."""
    return is_pair(thing) and is_cell(thing[0]) and is_int(thing[1])


def is_content(thing):
    """Whether a value is a content."""
    if not (isinstance(thing, tuple) and all([is_write(part) for part in thing])):
        return False
    return ascends([cell for cell, _ in thing])


def is_name(thing):
    """Whether a value is a name."""
    if not (isinstance(thing, str) and 1 <= len(thing) <= 8):
        return False
    return all([letter in LETTERS for letter in thing])


def is_change(thing):
    """Whether a value is a change."""
    if not (is_pair(thing) and is_name(thing[0]) and is_content(thing[1])):
        return False
    return len({cell[0] for cell, _ in thing[1]}) == 1


def name_of(number):
    """The name with this number: a to z, then aa, ab and so on."""
    name = ""
    rest = number + 1
    while rest > 0:
        # The letters count from 1 to 26, as no letter stands for nothing.
        rest, at = divmod(rest - 1, len(LETTERS))
        name = LETTERS[at] + name
    return name


def number_of(name):
    """The number of a name."""
    number = 0
    for letter in name:
        number = number * len(LETTERS) + LETTERS.index(letter) + 1
    return number - 1
