"""The promises about stores once more, word by word and without haste, to compare the program with."""


def pairs_before(names, ties):
    """All (earlier, later) that follow from ties."""
    pairs = {(earlier, later) for later, earlier in ties}
    for middle in names:
        for first in names:
            for last in names:
                if (first, middle) in pairs and (middle, last) in pairs:
                    pairs.add((first, last))
    return pairs


def store_error(disk, changes, ties):
    """The word of the error that making a store raises, or None."""
    cells = [cell for cell, _ in disk]
    names = [name for name, _ in changes]
    if any(cell not in cells for _, writes in changes for cell, _ in writes):
        return "cell"
    if len(set(names)) < len(names) or any(name not in names for tie in ties for name in tie):
        return "name"
    pairs = pairs_before(names, ties)
    if any((name, name) in pairs for name in names):
        return "ring"
    for name, writes in changes:
        for other, others in changes:
            common = {cell for cell, _ in writes} & {cell for cell, _ in others}
            if name != other and common and (name, other) not in pairs and (other, name) not in pairs:
                return "row"
    return None


def row_in(cell, changes, pairs):
    """The names that write a cell, in the order that they have."""
    names = [name for name, writes in changes if cell in dict(writes)]
    return tuple(sorted(names, key=lambda name: sum((other, name) in pairs for other in names)))


def left_by(lot, disk, changes, pairs):
    """The content of a lot."""
    content = []
    for cell, value in disk:
        row = [name for name in row_in(cell, changes, pairs) if name in lot]
        content.append((cell, dict(dict(changes)[row[-1]])[cell] if row else value))
    return tuple(content)


def is_lot(lot, pairs):
    """Whether names have, with each one, all before it."""
    return all(earlier in lot for earlier, later in pairs if later in lot)


def immediate(pairs, names):
    """The immediate ties, ascending."""
    found = [
        (later, earlier) for earlier, later in pairs
        if not any((earlier, middle) in pairs and (middle, later) in pairs for middle in names)]
    return tuple(sorted(found))


def is_ghost(name, disk, changes, pairs):
    """Whether each value that a change writes is the one just before it."""
    table = {other: dict(writes) for other, writes in changes}
    for cell, value in table[name].items():
        row = row_in(cell, changes, pairs)
        at = row.index(name)
        if value != (dict(disk)[cell] if at == 0 else table[row[at - 1]][cell]):
            return False
    return True


def text_of(disk, changes, pairs):
    """The text of a store."""
    def word(cell):
        return ".".join(str(part) for part in cell)

    names = [name for name, _ in changes]
    lines = ["cell " + word(cell) + " " + str(value) for cell, value in disk]
    for name, writes in sorted(changes):
        lines.append("change " + name + "".join(" " + word(cell) + "=" + str(value) for cell, value in writes))
    lines += ["tie " + later + " " + earlier for later, earlier in immediate(pairs, names)]
    return "\n".join(lines)


def assert_store(test, store, disk, changes, ties):
    """Every attribute and every question to a store that leaves it alone, compared with its parts."""
    names = sorted(name for name, _ in changes)
    pairs = pairs_before(names, ties)
    test.assertEqual(store.disk, tuple(disk))
    test.assertEqual(store.changes, tuple(sorted(changes)))
    test.assertEqual(store.ties, immediate(pairs, names))
    test.assertEqual(store.memory, left_by(names, disk, changes, pairs))
    test.assertEqual(store.cells, tuple(cell for cell, _ in disk))
    test.assertEqual(store.names, tuple(names))
    test.assertEqual(store.blocks, tuple(sorted({writes[0][0][0] for _, writes in changes})))
    test.assertEqual(store.text, text_of(disk, changes, pairs))
    test.assertEqual(len(store), len(changes))
    for cell, _ in disk:
        test.assertEqual(store.row(cell), row_in(cell, changes, pairs))
    for name, writes in changes:
        test.assertEqual(store.writes(name), writes)
        test.assertEqual(store.ahead_of(name), tuple(other for other in names if (other, name) in pairs))
        test.assertEqual(store.behind(name), tuple(other for other in names if (name, other) in pairs))
        test.assertIs(store.is_ghost(name), is_ghost(name, disk, changes, pairs))
        test.assertIs(name in store, True)
    again = type(store)(store.disk, store.changes, store.ties)
    test.assertIs(store == again, True)
    test.assertIs(store != again, False)
