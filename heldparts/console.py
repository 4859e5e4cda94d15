"""A console: a store with kept names that is changed and asked by commands."""

from heldparts.edits import Edit
from heldparts.errors import InvalidCommand, NoEdit, NothingDone
from heldparts.fitting import fitting
from heldparts.forms import are_names_in, is_cell, is_change, is_content, merged
from heldparts.kinds import Drop, Join, Tie
from heldparts.lots import lots
from heldparts.numerals import integer_in
from heldparts.stores import Store
from heldparts.texts import cell_in, write_in


def check(holds):
    """Raise an error unless a command can be executed."""
    if not holds:
        raise InvalidCommand()


def with_cell(state, words):
    """The state with a further cell on the disk."""
    store, kept, before = state
    check(len(words) == 2)
    cell, value = cell_in(words[0]), integer_in(words[1])
    check(is_cell(cell) and value is not None and cell not in store.cells)
    return Store(tuple(sorted(store.disk + ((cell, value),))), store.changes, store.ties), kept, before


def with_further_change(state, words):
    """The state with a change more."""
    store, kept, before = state
    end = words.index("after", 1) if "after" in words[1:] else len(words)
    others = tuple(words[end + 1:])
    check(len(words) > 0 and (end == len(words) or len(others) > 0))
    name, writes = words[0], tuple([write_in(word) for word in words[1:end]])
    check(is_change((name, writes)) and name not in store)
    check(all([cell in store.cells for cell, _ in writes]) and are_names_in(others, store))
    return store.with_change(name, writes, *others), kept, before


def with_kept(state, words):
    """The state in which a change more is kept."""
    store, kept, before = state
    check(len(words) == 1 and words[0] in store and words[0] not in kept)
    return store, merged(kept, (words[0],)), before


def with_released(state, words):
    """The state in which a change is not kept any more."""
    store, kept, before = state
    check(len(words) == 1 and words[0] in kept)
    return store, tuple([name for name in kept if name != words[0]]), before


def check_names(store, words, count):
    """Raise an error unless words are so many names of changes."""
    check(len(words) == count and all([name in store for name in words]))


def with_tie(state, words):
    """The state after a tie."""
    store, kept, before = state
    check_names(store, words, 2)
    return Tie(store, words[0], words[1], kept).after, kept, before


def with_join(state, words):
    """The state after a join."""
    store, kept, before = state
    check_names(store, words, 2)
    return Join(store, words[0], words[1], kept).after, kept, before


def with_drop(state, words):
    """The state after a drop."""
    store, kept, before = state
    check_names(store, words, 1)
    return Drop(store, words[0], kept).after, kept, before


def with_mark(state, words):
    """The state in which the store and its kept names are those to compare with."""
    store, kept, _ = state
    check(len(words) == 0)
    return store, kept, (store, kept)


def judged(state, words):
    """Whether, and by what, the edit since the mark is noticed."""
    store, _, before = state
    check(len(words) == 0 and before is not None)
    try:
        edit = Edit(before[0], store, before[1])
    except NoEdit:
        # A cell was added, or a change that was kept at the mark is gone or writes something else.
        raise InvalidCommand() from None
    told = edit.examine()
    return "unnoticed" if told[0] == "table" else "noticed " + told[0]


def counted(state, words):
    """How many lots there are."""
    check(len(words) == 0)
    store = state[0]
    return str(len([True for _ in lots(store)]))


def name_text(names):
    """Names joined by blanks, or a sign for none."""
    return " ".join(names) if len(names) > 0 else "-"


def found(state, words):
    """The least and the greatest lot with some values."""
    store = state[0]
    seen = tuple([write_in(word) for word in words])
    check(len(seen) > 0 and is_content(seen) and all([cell in store.cells for cell, _ in seen]))
    told = fitting(store, seen)
    if told[0] == "none":
        return "none"
    return name_text(told[1]) + " / " + name_text(told[2])


def told_text(state, words):
    """The text of the store in one line."""
    check(len(words) == 0)
    return state[0].text.replace("\n", " ; ")


CHANGES = {
    "cell": with_cell, "change": with_further_change, "keep": with_kept, "release": with_released, "tie": with_tie,
    "join": with_join, "drop": with_drop, "mark": with_mark}
QUESTIONS = {"judge": judged, "lots": counted, "found": found, "text": told_text}


class Console:
    """A store, its kept names and an earlier store, which commands change and ask."""

    def __init__(self):
        self.state = (Store.empty(()), (), None)
        self.earlier = []

    def say(self, command):
        """Execute a command and return its answer."""
        check(isinstance(command, str))
        word, *words = command.split(" ")
        if word in CHANGES:
            action = CHANGES[word]
            state = action(self.state, words)
            self.earlier.append(self.state)
            self.state = state
            return "ok"
        if word in QUESTIONS:
            question = QUESTIONS[word]
            return question(self.state, words)
        check(word == "undo" and len(words) == 0)
        if len(self.earlier) == 0:
            raise NothingDone()
        self.state = self.earlier.pop()
        return "ok"
