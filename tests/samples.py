"""Stores and values that several tests use."""

import random

from heldparts.stores import Store

X, Y, Z = (0, 0), (1, 0), (2, 0)
DISK = ((X, 0), (Y, 0))
ONE = Store(DISK, (("a", ((X, 1),)), ("b", ((X, 0),)), ("k", ((Y, 1),))), (("b", "a"), ("b", "k")))
BARE = Store(DISK, (("k", ((Y, 1),)),), ())
EMPTY = Store(DISK, (), ())
NOTHING = Store((), (), ())
# a, b, c on one cell, one after another; d writes three cells of the block and waits for all of them.
CHAIN = Store(
    (((0, 0), 7), ((0, 1), 8), ((0, 2), 9), ((4, 0), -1)),
    (("a", (((0, 0), 1),)), ("b", (((0, 0), 2),)), ("c", (((0, 0), 3),)),
     ("d", (((0, 0), 4), ((0, 1), 5), ((0, 2), 6))), ("e", (((4, 0), -2),))),
    (("b", "a"), ("c", "b"), ("d", "c")))
BIG = 10 ** 40 - 1


def nested(make, depth):
    """A value that is nested so deep."""
    thing = 0
    for _ in range(depth):
        thing = make(thing)
    return thing


# Values of every kind, among them some that cannot be a key or be compared with strings.
ANY = (
    None, True, False, 0, 1, -1, BIG, -BIG, "", " ", "a", "b", "k", "z", "aa", "A", "a1", "a b", "\n", "abcdefgh",
    "abcdefghi", "~" * 4000, "9" * 4000, (), (0,), (0, 0), (0, 0, 0), (True, False), (None, None), ("a", "b"),
    ("a",), [], [0, 0], ["a"], [[]], {}, {"a": 1}, {(0, 0): 1}, {1: {}}, ((0, 0), 1), (((0, 0), 1),),
    ("a", (((0, 0), 1),)), [("a", (((0, 0), 1),))], ("a", {}), ("a", []), ({}, ()), ([], 1), (([], []), 1),
    (((0, 0), 1), []), ((0, {}), 1), nested(lambda thing: (thing,), 39), nested(lambda thing: [thing], 39),
    nested(lambda thing: {"a": thing}, 39), nested(lambda thing: (thing, 1), 39), tuple(range(10000)),
    tuple(((0, place), 0) for place in range(3000)), [0] * 10000, {key: (key,) for key in range(3000)},
    ONE, BARE, NOTHING,
)


def random_parts(seed):
    """A disk, changes and ties that make a store, ties often more than needed, in any order."""
    source = random.Random(seed)
    cells = sorted(source.sample([(block, place) for block in range(3) for place in range(3)], source.randint(1, 6)))
    disk = tuple((cell, source.randint(-1, 1)) for cell in cells)
    names = source.sample(["a", "aa", "ab", "b", "c", "k", "ka", "z", "zz"], source.randint(0, 7))
    changes, last, ties = [], {}, []
    for at, name in enumerate(names):
        block = source.choice(cells)[0]
        near = [cell for cell in cells if cell[0] == block]
        written = sorted(source.sample(near, source.randint(1, len(near))))
        changes.append((name, tuple((cell, source.randint(-1, 1)) for cell in written)))
        ties.extend((name, last[cell]) for cell in written if cell in last)
        ties.extend((name, other) for other in names[:at] if source.random() < 0.2)
        last.update({cell: name for cell in written})
    source.shuffle(changes)
    ties = ties + ties[:2]
    source.shuffle(ties)
    return disk, tuple(changes), tuple(ties)
