"""The forms of cells, contents, names and changes, and the numbering of names."""

LETTERS = "abcdefghijklmnopqrstuvwxyz"


def is_int(thing):
    """Whether a value is an integer; True and False are none."""
    return isinstance(thing, int) and not isinstance(thing, bool)


def is_pair(thing):
    """Whether a value is a tuple of two."""
    return isinstance(thing, tuple) and len(thing) == 2


def ascends(row):
    """Whether a list or tuple of values that can be compared ascends, without duplicates."""
    return all([row[at] < row[at + 1] for at in range(len(row) - 1)])


def merged(parts, others):
    """Two tuples as one, ascending."""
    return tuple(sorted(parts + others))


def are_names_in(thing, store):
    """Whether a value is an ascending tuple of names of changes of a store."""
    return isinstance(thing, tuple) and all([name in store for name in thing]) and ascends(thing)


def is_cell(thing):
    """Whether a value is a cell."""
    if not (is_pair(thing) and is_int(thing[0]) and is_int(thing[1])):
        return False
    return thing[0] >= 0 and thing[1] >= 0


def is_write(thing):
    """Whether a value is a cell with a value."""
    return is_pair(thing) and is_cell(thing[0]) and is_int(thing[1])


def is_content(thing):
    """Whether a value is a content."""
    if not isinstance(thing, tuple) or (len(thing) > 0 and not is_write(thing[0])):
        return False
    # Contents can be long, so this is one loop that calls no function of the package and ends at the first fault.
    last_block = last_place = -1
    for part in thing:
        match part:
            # The pattern alone takes lists, too.
            case ((block, place), value) if isinstance(part, tuple) and isinstance(part[0], tuple):
                if not isinstance(place, int) or not isinstance(value, int) or value is True or value is False:
                    return False
                if block != last_block:
                    if not isinstance(block, int) or block < last_block or place < 0 or place is False:
                        return False
                    last_block = block
                elif place <= last_place:
                    return False
                # True and False pass as the integers 1 and 0 up to here.
                if block is True or block is False or place is True:
                    return False
                last_place = place
            case _:
                return False
    return True


def is_name(thing):
    """Whether a value is a name."""
    if not (isinstance(thing, str) and 1 <= len(thing) <= 8):
        return False
    return thing.isascii() and thing.isalpha() and thing.islower()


def is_change(thing):
    """Whether a value is a change."""
    if not (is_pair(thing) and is_name(thing[0]) and is_content(thing[1]) and len(thing[1]) > 0):
        return False
    # The cells ascend, so if the first and the last one are in one block, all are.
    first, last = thing[1][0][0], thing[1][-1][0]
    return first[0] == last[0]


def are_changes(thing):
    """Whether a value is a tuple of changes, ascending by distinct names."""
    if not isinstance(thing, tuple):
        return False
    last = ""
    for part in thing:
        if not is_change(part) or part[0] <= last:
            return False
        last = part[0]
    return True


def are_ties(thing):
    """Whether a value is an ascending tuple of pairs of names."""
    if not isinstance(thing, tuple):
        return False
    last = ("", "")
    for part in thing:
        if not (is_pair(part) and is_name(part[0]) and is_name(part[1])) or part <= last:
            return False
        last = part
    return True


def name_of(number):
    """The name with this number: a to z, then aa, ab and so on."""
    name = ""
    rest = number + 1
    while rest > 0:
        # The letters count from 1 to 26, as no letter stands for nothing.
        rest, at = divmod(rest - 1, len(LETTERS))
        name = LETTERS[at] + name
    return name


def number_of(name):
    """The number of a name."""
    number = 0
    for letter in name:
        number = number * len(LETTERS) + LETTERS.index(letter) + 1
    return number - 1
