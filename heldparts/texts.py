"""The texts of stores and of views."""

from heldparts.errors import InvalidText
from heldparts.forms import is_change, is_content
from heldparts.numerals import SHORT, integer_in, numeral


def cell_text(cell):
    """A cell as B.P."""
    block, place = cell
    if block < SHORT and place < SHORT:
        return f"{block}.{place}"
    return numeral(block) + "." + numeral(place)


def write_texts(writes, words):
    """Cells with values as B.P=V, where the words for the cells are known."""
    return [f"{words[cell]}={value if -SHORT < value < SHORT else numeral(value)}" for cell, value in writes]


def store_text(disk, changes, ties):
    """The text of a store with these attributes."""
    words = {cell: cell_text(cell) for cell, _ in disk}
    lines = [f"cell {words[cell]} {value if -SHORT < value < SHORT else numeral(value)}" for cell, value in disk]
    lines = lines + [f"change {name} " + " ".join(write_texts(writes, words)) for name, writes in changes]
    return "\n".join(lines + [f"tie {later} {earlier}" for later, earlier in ties])


def view_text(entries):
    """The text of a view with these entries."""
    values = [[numeral(value) for _, value in entry[0]] for entry in entries]
    widths = [max([len(word) for word in column]) for column in zip(*values)]
    kept = [" ".join(entry[1]) for entry in entries]
    width = max([len(names) for names in kept])
    lines = []
    for words, names, entry in zip(values, kept, entries):
        filled = " ".join([word.rjust(wide) for word, wide in zip(words, widths)])
        done = " ".join([cell_text(cell) for cell in entry[2]])
        lines.append(f"{filled} | {names.ljust(width)} | {done}")
    return "\n".join(lines)


def cell_in(word):
    """The cell that a word B.P writes; for any other word no cell."""
    block, _, place = word.partition(".")
    return integer_in(block), integer_in(place)


def write_in(word):
    """The cell and value that a word B.P=V writes; for any other word no cell with a value."""
    cell, _, value = word.partition("=")
    return cell_in(cell), integer_in(value)


def words_by_kind(text):
    """The words of the lines of a text behind their first words, for each first word."""
    found = {"cell": [], "change": [], "tie": []}
    for line in text.split("\n"):
        kind, *words = line.split(" ")
        if kind not in found or len(words) < 2 or (kind != "change" and len(words) > 2):
            raise InvalidText()
        found[kind].append(words)
    return found


def parts_in(text):
    """The disk, the changes and the ties that a text speaks of, if they are a content, changes and pairs of words.

    Where the lines stand, and whether the ties are those of a store, is not looked at.
    """
    if not isinstance(text, str):
        raise InvalidText()
    if text == "":
        return (), (), ()
    found = words_by_kind(text)
    disk = tuple([(cell_in(cell), integer_in(value)) for cell, value in found["cell"]])
    changes = []
    for name, *writes in found["change"]:
        changes.append((name, tuple([write_in(word) for word in writes])))
    if not (is_content(disk) and all([is_change(change) for change in changes])):
        raise InvalidText()
    return disk, tuple(changes), tuple([(later, earlier) for later, earlier in found["tie"]])
