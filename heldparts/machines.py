"""Modules at work on states in which contents, names and cells are bits, and a search through all of these.

An entry is an integer. Its lowest bits tell which cells are done, the next ones which handles hold a change of the lot,
and behind these stand the values of the cells, those of the first cell highest. A frame is `(memory, held, entries)`,
all of a state but its past, where `held` has the bits of the handles that hold a change.
"""

from heldparts.errors import TooMany
from heldparts.meanings import steps_of, truth_of
from heldparts.promises import shown_by, values_on

# Values are from 0 to 8.
WIDTH = 4
FIELD = 15


def advanced(entries, steps, done_bits):
    """The entries behind some steps, ascending; of those with the same values and names one has all their cells done.

    A step is `(stay, need, move, put)`. Each lot is still a lot without the change that the step makes, and those that
    have what it needs are lots with it, too. A step that needs nothing makes no change, but lets a handle hold nothing.
    """
    for stay, need, move, put in steps:
        found = {}
        for code in entries:
            left = code & stay
            key = left >> done_bits
            found[key] = found.get(key, 0) | left
            if need > 0 and code & need == need:
                left = code & move | put
                key = left >> done_bits
                found[key] = found.get(key, 0) | left
        entries = list(found.values())
    return tuple(sorted(entries))


class Machine:
    """A module, with all that has been found out about its frames."""

    def __init__(self, module):
        self.module = module
        self.cells = [cell for cell, _ in module.start]
        count = len(self.cells)
        self.shift = count + len(module.handles)
        self.done_bits = {cell: 1 << at for at, cell in enumerate(self.cells)}
        self.handle_bits = {handle: 1 << (count + at) for at, handle in enumerate(module.handles)}
        # How far the value of a cell is shifted in a content.
        self.fields = {cell: WIDTH * (count - 1 - at) for at, cell in enumerate(self.cells)}
        self.runs = {}
        self.shown_bits = {}
        self.promises = {}

    def content_code(self, content):
        """A content as an integer."""
        return sum([value << self.fields[cell] for cell, value in content])

    def content(self, code):
        """The content that an integer stands for."""
        return tuple([(cell, (code >> self.fields[cell]) & FIELD) for cell in self.cells])

    def entry_code(self, entry):
        """An entry as an integer."""
        content, names, done = entry
        bits = sum([self.handle_bits[name] for name in names]) + sum([self.done_bits[cell] for cell in done])
        return (self.content_code(content) << self.shift) + bits

    def entry(self, code):
        """The entry that an integer stands for."""
        names = tuple([handle for handle in self.module.handles if code & self.handle_bits[handle] != 0])
        done = tuple([cell for cell in self.cells if code & self.done_bits[cell] != 0])
        return self.content(code >> self.shift), names, done

    def first_frame(self):
        """The frame in which no change was made."""
        memory = self.content_code(self.module.start)
        return memory, 0, (self.entry_code((self.module.start, (), self.cells)),)

    def frame_of(self, memory, entries):
        """The frame of a state."""
        held = 0
        for _, names, _ in entries:
            for name in names:
                held = held | self.handle_bits[name]
        return self.content_code(memory), held, tuple([self.entry_code(entry) for entry in entries])

    def entries_of(self, frame):
        """The entries of the state of a frame, ascending."""
        return tuple(sorted([self.entry(code) for code in frame[2]]))

    def coded_put(self, writes, after, bit, held):
        """A step that makes a change, where the handles of some bits hold one."""
        done = sum([self.done_bits[cell] for cell, _ in writes])
        old = sum([FIELD << self.fields[cell] for cell, _ in writes]) << self.shift
        new = self.content_code(writes) << self.shift
        need = done | (sum([self.handle_bits[other] for other in after]) & held)
        return ~(done | bit), need, ~(old | bit), new | bit

    def run(self, memory, held, operation):
        """What an operation with an input does: its steps, and which memory and bits of handles it leaves.

        Which steps these are depends on nothing else.
        """
        key = (memory, held, operation)
        if key not in self.runs:
            name, number = operation
            values = values_on(self.content(memory))
            coded = []
            for writes, after, handle in steps_of(self.module.bodies[name], self.module.sizes, values, number):
                bit = 0 if handle is None else self.handle_bits[handle]
                if len(writes) > 0:
                    coded.append(self.coded_put(writes, after, bit, held))
                    held = held | bit
                elif held & bit != 0:
                    coded.append((~bit, 0, 0, 0))
                    held = held ^ bit
            self.runs[key] = (coded, self.content_code(list(values.items())), held)
        return self.runs[key]

    def next_frame(self, frame, operation):
        """The frame to which an operation with an input leads."""
        memory, held, entries = frame
        steps, left, holding = self.run(memory, held, operation)
        return left, holding, advanced(entries, steps, len(self.cells))

    def promised(self, code):
        """For a content a bit that stands for what is shown on it, and whether the test holds on it."""
        if code not in self.promises:
            values = values_on(self.content(code))
            shown = shown_by(self.module, values)
            bit = self.shown_bits.setdefault(shown, 1 << len(self.shown_bits))
            self.promises[code] = (bit, truth_of(self.module.promise[0], values, 0))
        return self.promises[code]

    def past_needed(self, frame):
        """The bits of all that the past must have so that the state is good, or -1 if it never is."""
        needed = 0
        for content in {code >> self.shift: True for code in frame[2]}:
            bit, holds = self.promised(content)
            if not holds:
                return -1
            needed = needed | bit
        return needed

    def shown_in(self, past):
        """The past that some bits stand for, ascending."""
        return tuple(sorted([shown for shown in self.shown_bits if past & self.shown_bits[shown] != 0]))


class Search:
    """The reached states of a module, each as the number of its frame and the bits of its past."""

    def __init__(self, module):
        self.module = module
        self.machine = Machine(module)
        self.numbers = {}
        self.frames = []
        self.needed = []
        self.moves = {}
        # For each state the one before it and the operation that leads from that to it.
        self.ways = {}
        self.broken_state = None

    def number_of(self, frame):
        """The number of a frame."""
        if frame not in self.numbers:
            self.numbers[frame] = len(self.frames)
            self.frames.append(frame)
            self.needed.append(self.machine.past_needed(frame))
        return self.numbers[frame]

    def moves_from(self, number):
        """For each operation the number of the frame to which it leads, and the bit of what is shown then."""
        if number not in self.moves:
            found = []
            for operation in self.module.inputs:
                frame = self.machine.next_frame(self.frames[number], operation)
                found.append((operation, self.number_of(frame), self.machine.promised(frame[0])[0]))
            self.moves[number] = found
        return self.moves[number]

    def reach(self, limit):
        """Find all reached states, if there are no more than a limit, and the first one that is not good.

        A state comes before those behind more operations, so no row to a state that is not good is shorter.
        """
        frame = self.machine.first_frame()
        first = (self.number_of(frame), self.machine.promised(frame[0])[0])
        self.enter(first, None, limit)
        waiting = [first]
        done = 0
        while done < len(waiting):
            state = waiting[done]
            number, past = state
            done += 1
            if self.needed[number] & ~past != 0:
                self.broken_state = self.broken_state or state
                continue
            for operation, after, bit in self.moves_from(number):
                more = (after, past | bit)
                if more not in self.ways:
                    self.enter(more, (state, operation), limit)
                    waiting.append(more)

    def enter(self, state, way, limit):
        """Add a reached state, unless there are too many."""
        if len(self.ways) >= limit:
            raise TooMany(limit)
        self.ways[state] = way

    def row_to(self, state):
        """A row of operations, as short as any, to a reached state."""
        row = []
        way = self.ways[state]
        while way is not None:
            row.append(way[1])
            way = self.ways[way[0]]
        return tuple(row[::-1])

    def broken_content(self):
        """A content for which the promise does not hold in the state that is not good."""
        number, past = self.broken_state
        for code in self.frames[number][2]:
            bit, holds = self.machine.promised(code >> self.machine.shift)
            if not holds or bit & past == 0:
                return self.machine.content(code >> self.machine.shift)
        return None

    def paper(self):
        """All reached states, ascending."""
        entries = {}
        found = []
        for number, past in self.ways:
            if number not in entries:
                frame = self.frames[number]
                entries[number] = (self.machine.content(frame[0]), self.machine.entries_of(frame))
            memory, told = entries[number]
            found.append((memory, told, self.machine.shown_in(past)))
        return tuple(sorted(found))
