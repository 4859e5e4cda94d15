"""Lots as integers that have all that is asked of lots, so that many of them are found, put in order and compared fast.

From the highest bits to the lowest such an integer has: how many changes the lot has; a bit for each change that it
does not have; for each cell the rank of its value, and a bit that tells whether it is done; and a bit for each kept
name that the lot has. The first change, cell or name has the highest of these bits. So the integers of lots ascend as
lots are listed, and what they have below the bits for changes ascends by contents.
"""

from heldparts.errors import TooMany


def values_in(*frames):
    """All values that cells have in lots, ascending."""
    return sorted({value for frame in frames for line in list(frame.lines.values()) for _, value in line})


class Coder:
    """Where the integers for lots of stores with the same cells and the same kept names have what."""

    def __init__(self, cells, kept, values):
        self.cells = cells
        self.kept = kept
        self.all_values = values
        self.ranks = {value: at << 1 for at, value in enumerate(values)}
        self.width = width = (len(values) - 1).bit_length() + 1
        self.rank_mask = (1 << width) - 2
        # Where the bits of the cells begin, and where those of the changes do.
        self.base = base = len(kept)
        self.top = base + width * len(cells)
        last = len(cells) - 1
        self.shifts = {cell: base + width * (last - at) for at, cell in enumerate(cells)}
        # Contents and kept names, without the cells that are done.
        every = (1 << self.top) - 1
        self.key_mask = every ^ (((every >> base) // ((1 << width) - 1)) << base)

    def first_code(self, frame):
        """The integer of the lot without changes."""
        code = ((1 << len(frame.names)) - 1) << self.top
        for cell in self.cells:
            line = frame.lines[cell]
            done = 1 if len(line) == 1 else 0
            code = code + ((self.ranks[line[0][1]] + done) << self.shifts[cell])
        return code

    def steps(self, frame):
        """For each change `(need, stay, more)`, in an order in which they may be written.

        A lot is still a lot with the change if its integer has none of the bits of `need`. Then the bits of `stay`
        stay, and `more` is added.
        """
        top, ranks, shifts, rank_mask = self.top, self.ranks, self.shifts, self.rank_mask
        one = 1 << (top + len(frame.names))
        found = []
        for at in frame.order:
            name, writes = frame.changes[~at]
            # One change more, and the bit of this one gone.
            more = one - (1 << (top + at))
            old = 0
            for cell, value in writes:
                shift = shifts[cell]
                old = old | (rank_mask << shift)
                done = 1 if frame.lines[cell][-1][0] == at else 0
                more = more + ((ranks[value] + done) << shift)
            if name in self.kept:
                more = more + (1 << (self.base - 1 - self.kept.index(name)))
            found.append((frame.masks[at] << top, ~old, more))
        return found

    def codes(self, frame, limit):
        """The integers of all lots, in any order, if there are no more than a limit."""
        found = [self.first_code(frame)]
        if limit < 1:
            raise TooMany(limit)
        for need, stay, more in self.steps(frame):
            found = found + [(code & stay) + more for code in found if code & need == 0]
            if len(found) > limit:
                raise TooMany(limit)
        return found

    def content(self, code):
        """The content of a lot."""
        values, mask = self.all_values, self.rank_mask
        return tuple([(cell, values[((code >> self.shifts[cell]) & mask) >> 1]) for cell in self.cells])

    def done_in(self, code):
        """The cells that are done in a lot, ascending."""
        return tuple([cell for cell in self.cells if (code >> self.shifts[cell]) & 1 == 1])

    def names_lacking(self, code):
        """The kept names that a lot does not have, ascending."""
        last = self.base - 1
        return tuple([name for at, name in enumerate(self.kept) if (code >> (last - at)) & 1 == 0])


def plain_steps(frame):
    """Steps for integers that have nothing below the bits for changes."""
    one = 1 << len(frame.names)
    return [(frame.masks[at], -1, one - (1 << at)) for at in frame.order]


def levels(first, steps):
    """Yield lists of the integers of lots with equally many changes, each ascending.

    Each lot is made once, by the last of its changes in the order of the steps, so they are kept in groups by this one.
    """
    groups = [[first]] + [[] for _ in steps]
    level = [first]
    while len(level) > 0:
        yield level
        more = [[]]
        before = []
        for (need, stay, added), group in zip(steps, groups):
            before = before + group
            more.append([(code & stay) + added for code in before if code & need == 0])
        groups = more
        level = sorted([code for group in groups for code in group])


class Names:
    """Tuples of names for masks, each half of which is looked up, so that for many masks there is little to do."""

    def __init__(self, names):
        half = len(names) // 2
        self.half = half
        self.low = (1 << half) - 1
        first, last = names[:len(names) - half], names[len(names) - half:]
        self.first_bits = [(1 << (len(first) - 1 - at), name) for at, name in enumerate(first)]
        self.last_bits = [(1 << (half - 1 - at), name) for at, name in enumerate(last)]
        self.every = (1 << len(names)) - 1
        self.firsts = {}
        self.lasts = {}

    def tuples(self, masks):
        """The list of the tuples for masks."""
        half, low, firsts, lasts = self.half, self.low, self.firsts, self.lasts
        found = []
        for mask in masks:
            first, last = mask >> half, mask & low
            if first not in firsts:
                firsts[first] = tuple([name for bit, name in self.first_bits if first & bit != 0])
            if last not in lasts:
                lasts[last] = tuple([name for bit, name in self.last_bits if last & bit != 0])
            found.append(firsts[first] + lasts[last])
        return found

    def of_codes(self, codes, top):
        """The list of the tuples for the lots of integers, which have their bits for changes from a place on."""
        every = self.every
        return self.tuples([every & ~(code >> top) for code in codes])
