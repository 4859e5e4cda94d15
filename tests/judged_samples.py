"""Modules that are judged: some that keep their promise and some that do not, with few states and with many."""

import random

from heldparts.modules import Module
from tests.module_samples import DRAWER, JOURNAL, LOOSE, SLOPPY, random_body, random_expression, random_test
from tests.samples import X, Y

ALWAYS = ("same", 0, 0)


def counter(first, second):
    """A module that counts; its promise does not hold when it has counted to the end."""
    low, high = (0, 0), (0, 1)
    carry = ("pick", ("same", ("cell", low), first - 1), 1, 0)
    body = (("put", ((low, ("plus", ("cell", low), 1)), (high, ("plus", ("cell", high), carry))), (), None),)
    end = ("and", ("same", ("cell", low), first - 1), ("same", ("cell", high), second - 1))
    return Module(((low, first, 0), (high, second, 0)), (), (("count", 1, body),), (("not", end), ()))


def judged_module(seed):
    """A module with some operations and a promise that is not broken at once."""
    source = random.Random(seed)
    places = sorted(source.sample([(0, 0), (0, 1), (1, 0), (2, 0)], source.randint(1, 3)))
    cells = tuple((cell, source.choice([2, 2, 3]), 0) for cell in places)
    handles = tuple(sorted(source.sample(["a", "h", "k"], source.choice([0, 1, 1, 2]))))
    operations = tuple(
        (name, source.choice([1, 1, 2]), random_body(source, places, handles, 1, 3))
        for name in sorted(source.sample(["add", "do", "x"], source.randint(1, 2))))
    shows = tuple(random_expression(source, places, 2, False) for _ in range(source.choice([0, 0, 1])))
    test = source.choice([ALWAYS, ALWAYS, ("not", random_test(source, places, 2, False)), ("not", random_test(source, places, 3, False))])
    return Module(cells, handles, operations, (test, shows))


# Two cells that are written in turn, each behind the other; without these ties what is left may never have been shown.
TURNS = Module(
    ((X, 2, 0), (Y, 2, 0)), ("h", "k"),
    (("left", 1, (("put", ((X, ("plus", ("cell", X), 1)),), ("h", "k"), "k"),)),
     ("right", 1, (("put", ((Y, ("plus", ("cell", Y), 1)),), ("h", "k"), "h"),))),
    (ALWAYS, (("cell", X), ("cell", Y))))
# Seeds of modules with nine to ninety reached states, most of which keep their promise, and of such that do not.
MANY = (1240, 504, 1913, 2120, 1722, 2588, 3720, 2416, 5259, 2986, 4999, 6214, 7104, 3890, 8004, 5088, 4581, 1977, 6227, 6804,
        5116)
BROKEN = (2765, 819, 2797, 6662, 8809, 2306, 2464, 5899, 5960, 1227, 2274, 6873, 5008, 6169, 4913, 4200, 2065)
# Seeds of modules that have more reached states when some name is left out.
GROWING = (1018, 2212, 2820, 2983, 3939, 5010, 5639, 5897, 6685, 7035)
MODULES = tuple(judged_module(seed) for seed in tuple(range(160)) + MANY + BROKEN) + (
    DRAWER, LOOSE, JOURNAL, SLOPPY, TURNS, counter(3, 2))
