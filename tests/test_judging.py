"""Points 27 to 29: states, papers, breaks, and modules that are judged and spared."""

import itertools
import random
import time
import unittest

from heldparts.errors import NoModule, TooMany
from heldparts.judging import (
    break_holds, breaking_lots, first_state, is_good, judge, next_state, paper_holds, spared)
from heldparts.modules import Module, held, history
from heldparts.views import View
from tests.judged_samples import ALWAYS, GROWING, MODULES, TURNS, counter, judged_module
from tests.module_samples import (
    DRAWER, JOURNAL, LOOSE, SLOPPY, breaking, random_module, random_row, run, search, state_of)
from tests.samples import ANY, X, Y

FOUND = {at: search(module, 45) for at, module in enumerate(MODULES)}


def with_operations(module, operations):
    return Module(module.cells, module.handles, operations, module.promise)


def places_of_after(body, path=()):
    """The places of all names in `after` tuples, in the order in which they are written."""
    for at, statement in enumerate(body):
        if statement[0] == "put":
            yield from (path + (at, 2, place) for place in range(len(statement[2])))
        elif statement[0] == "if":
            for part in (2, 3):
                yield from places_of_after(statement[part], path + (at, part))


def without(thing, path):
    """A tuple without what stands at the end of a path."""
    if len(path) == 1:
        return thing[:path[0]] + thing[path[0] + 1:]
    return thing[:path[0]] + (without(thing[path[0]], path[1:]),) + thing[path[0] + 1:]


def spared_by_hand(module, keeps):
    """Point 29, where a function tells whether a module keeps its promise."""
    paths = [(at, 2) + path for at, (_, _, body) in enumerate(module.operations) for path in places_of_after(body)]
    for path in reversed(paths):
        tried = with_operations(module, without(module.operations, path))
        if keeps(tried):
            module = tried
    return module


def changed_somewhere(thing, source):
    """A value with one part of it, at any depth, put otherwise."""
    if isinstance(thing, tuple) and thing and source.random() < 0.9:
        at = source.randrange(len(thing))
        way = source.random()
        if way < 0.06:
            return thing[:at] + thing[at + 1:]
        if way < 0.1:
            return thing[:at] + (thing[at],) + thing[at:]
        if way < 0.14:
            return list(thing)
        return thing[:at] + (changed_somewhere(thing[at], source),) + thing[at + 1:]
    if isinstance(thing, int) and not isinstance(thing, bool) and thing in (0, 1) and source.random() < 0.5:
        return bool(thing)
    return source.choice([None, True, False, -1, 0, 1, 2, "h", "zz", (), [], {}, (0, 0), ((0, 0), 1)])


def kinds_of(thing):
    """A value with the kinds of all its parts, so that True is told from 1, and a list from a tuple."""
    if isinstance(thing, (tuple, list)):
        return (type(thing), [kinds_of(part) for part in thing])
    return (type(thing), thing)


class TestStates(unittest.TestCase):

    def test_along_rows(self):
        source = random.Random(1)
        kept = good = bad = 0
        for module in MODULES:
            made = run(module, ())
            state = first_state(module)
            self.assertEqual(state, state_of(made))
            for name, number in random_row(source, module, 5):
                before = repr(state)
                after = next_state(module, state, name, number)
                self.assertEqual(repr(state), before)
                made.do(name, number)
                if len(made.changes) > 9:
                    break
                self.assertEqual(after, state_of(made))
                self.assertEqual(next_state(state=state, number=number, name=name, module=module), after)
                state = after
                self.assertIs(is_good(module, state), not breaking(made))
                self.assertIs(is_good(state=state, module=module), is_good(module, state))
                good, bad, kept = good + is_good(module, state), bad + (not is_good(module, state)), kept + len(made.holding)
        self.assertGreater(min(good, bad, kept), 30)

    def test_long_rows_against_views(self):
        source = random.Random(2)
        longest = 0
        for module in MODULES + tuple(random_module(seed) for seed in range(80)):
            if not module.inputs:
                continue
            state, row = first_state(module), ()
            for _ in range(source.choice([8, 20])):
                row += (source.choice(module.inputs),)
                state = next_state(module, state, *row[-1])
                store, holding = history(module, *row), {name: handle for handle, name in held(module, *row)}
                self.assertEqual(state[0], store.memory)
                try:
                    view = View.of(store, tuple(sorted(holding)), limit=150)
                except TooMany:
                    break
                entries = [(content, tuple(sorted(holding[name] for name in names)), done)
                           for content, names, done in view.entries]
                self.assertEqual(state[1], tuple(sorted(entries)))
                self.assertEqual(state[2], tuple(sorted(run(module, row).past)))
                longest = max(longest, len(store))
        self.assertGreater(longest, 40)

    def test_handles_that_are_put_anew_released_and_taken_over(self):
        cells = ((X, 2, 0), (Y, 2, 0))
        put = {name: ("put", ((cell, ("plus", ("cell", cell), 1)),), after, handle) for name, cell, after, handle in (
            ("anew", X, ("h",), "h"), ("other", Y, ("h", "k"), "h"), ("over", Y, ("h",), "k"), ("loose", X, (), None))}
        operations = tuple((name, 1, (put[name],)) for name in sorted(put)) + (
            ("release", 1, (("release", "h"),)), ("twice", 1, (put["anew"], ("release", "k"), put["over"], put["other"])))
        module = Module(cells, ("h", "k"), operations, (ALWAYS, (("cell", X),)))
        for row in itertools.product(module.inputs, repeat=4):
            made = run(module, row)
            if len(made.changes) < 10:
                state = first_state(module)
                for name, number in row:
                    state = next_state(module, state, name, number)
                self.assertEqual(state, state_of(made))

    def test_goodness(self):
        self.assertIs(is_good(LOOSE, first_state(LOOSE)), True)
        self.assertIs(is_good(LOOSE, next_state(LOOSE, first_state(LOOSE), "add", 0)), False)
        wrong = Module(((X, 2, 1),), (), (), (("same", ("cell", X), 0), ()))
        self.assertIs(is_good(wrong, first_state(wrong)), False)


class TestJudge(unittest.TestCase):

    def test_against_a_search(self):
        counts = {"keeps": 0, "breaks": 0}
        sizes = []
        for at, module in enumerate(MODULES):
            found = FOUND[at]
            if found is None:
                with self.assertRaises(TooMany):
                    judge(module, limit=45)
                continue
            many = len(found)
            told = judge(module, limit=many)
            counts[told[0]] += 1
            sizes.append(many)
            rows = [row for row in found.values() if breaking(run(module, row))]
            if rows:
                self.assertEqual((told[0], len(told)), ("breaks", 3))
                self.assertEqual(len(told[1]), min(len(row) for row in rows))
                self.assertIn(told[2], breaking(run(module, told[1])))
                self.assertIs(break_holds(module, told[1:]), True)
            else:
                self.assertEqual(told, ("keeps", tuple(sorted(found))))
                self.assertIs(paper_holds(module, told[1]), True)
            self.assertEqual(judge(module, limit=many + 1), told)
            self.assertEqual(judge(limit=2000, module=module), told)
            self.assertEqual(judge(module), told)
            for limit in {many - 1, 0}:
                with self.assertRaises(TooMany) as caught:
                    judge(module, limit=limit)
                self.assertEqual(caught.exception.limit, limit)
        self.assertGreater(min(counts.values()), 30)
        self.assertGreater(max(sizes), 35)

    def test_every_lot_of_every_history_of_short_rows(self):
        for module in MODULES[::3]:
            told = judge(module, limit=2000)
            broken = [count for count in range(4) for row in itertools.product(module.inputs, repeat=count)
                      if len(module.inputs) ** count < 40 and breaking(run(module, row))]
            if told[0] == "keeps":
                self.assertEqual(broken, [])
            elif len(module.inputs) ** len(told[1]) < 40 and len(told[1]) < 4:
                self.assertEqual(min(broken), len(told[1]))

    def test_modules_with_eighty_states(self):
        sizes = [len(told[1]) for told in (judge(module, limit=100) for at, module in enumerate(MODULES)
                                           if FOUND[at] is None) if told[0] == "keeps"]
        self.assertGreater(max(sizes), 60)

    def test_a_break_at_once(self):
        module = Module(((X, 2, 1),), ("h",), (("add", 4, ()),), (("same", ("cell", X), 0), ()))
        self.assertEqual(judge(module), ("breaks", (), ()))
        self.assertEqual(judge(module, limit=1), ("breaks", (), ()))
        with self.assertRaises(TooMany):
            judge(module, limit=0)

    def test_the_default_limit(self):
        for first, second in ((9, 9), (8, 8)):
            module = counter(first, second)
            many = first * second
            with self.assertRaises(TooMany) as caught:
                judge(module)
            self.assertEqual(caught.exception.limit, 200)
            with self.assertRaises(TooMany) as caught:
                judge(module, limit=many - 1)
            self.assertEqual(caught.exception.limit, many - 1)

    def test_breaks_behind_many_operations(self):
        for first, second in ((9, 6), (7, 8), (9, 7), (8, 8)):
            module = counter(first, second)
            count = first * second - 1
            if count <= 60:
                told = judge(module)
                self.assertEqual(told[:2], ("breaks", (("count", 0),) * count))
                self.assertEqual(len(told[2]), count)
                self.assertIs(break_holds(module, told[1:]), True)
            else:
                with self.assertRaises(TooMany) as caught:
                    judge(module, limit=count + 1)
                self.assertEqual(caught.exception.limit, count + 1)
                row = (("count", 0),) * count
                lot = history(module, *row).names
                self.assertIs(break_holds(module, (row, lot)), False)

    def test_a_row_of_sixty_and_of_sixty_one(self):
        low, high = (0, 0), (0, 1)
        for end, expected in ((60, True), (61, False)):
            carry = ("pick", ("same", ("cell", low), 8), 1, 0)
            body = (("put", ((low, ("plus", ("cell", low), 1)), (high, ("plus", ("cell", high), carry))), (), None),)
            here = ("and", ("same", ("cell", low), end % 9), ("same", ("cell", high), end // 9))
            module = Module(((low, 9, 0), (high, 7, 0)), (), (("count", 1, body),), (("not", here), ()))
            if expected:
                told = judge(module, limit=61)
                self.assertEqual(len(told[1]), 60)
                self.assertIs(break_holds(module, told[1:]), True)
            else:
                with self.assertRaises(TooMany) as caught:
                    judge(module)
                self.assertEqual(caught.exception.limit, 200)

    def test_in_a_short_time(self):
        start = time.perf_counter()
        for _ in range(20):
            for at, module in enumerate(MODULES):
                if FOUND[at] is None:
                    judge(module, limit=100)
        self.assertLess(time.perf_counter() - start, 20)


class TestPapers(unittest.TestCase):

    def test_things_put_otherwise(self):
        source = random.Random(3)
        answers = {True: 0, False: 0}
        for at, module in enumerate(MODULES):
            if FOUND[at] is None:
                continue
            paper = tuple(sorted(FOUND[at]))
            expected = not any(breaking(run(module, row)) for row in FOUND[at].values())
            answers[expected] += 1
            self.assertIs(paper_holds(module, paper), expected)
            self.assertIs(paper_holds(thing=paper, module=module), expected)
            for _ in range(25):
                other = changed_somewhere(paper, source)
                told = paper_holds(module, other)
                self.assertIs(told, expected and kinds_of(other) == kinds_of(paper))
            for other in (paper + paper, paper[:-1], paper[1:], paper[::-1], list(paper), (paper,), paper + (None,), paper * 100):
                if other != paper:
                    self.assertIs(paper_holds(module, other), False)
        self.assertGreater(min(answers.values()), 30)

    def test_values_of_any_kind(self):
        for module in MODULES[::10] + (DRAWER, LOOSE):
            for thing in ANY:
                self.assertIs(paper_holds(module, thing), False)
                self.assertIs(paper_holds(module, (thing,)), False)
                self.assertIs(paper_holds(module, (first_state(module), thing)), False)

    def test_true_for_one(self):
        paper = judge(DRAWER)[1]
        for state in range(len(paper)):
            for place in range(3):
                part = paper[state][place]
                for change in (lambda value: value == 1 or value, lambda value: list(value) if isinstance(value, tuple) else value):
                    other = deep(part, change)
                    if kinds_of(other) != kinds_of(part):
                        changed = paper[state][:place] + (other,) + paper[state][place + 1:]
                        self.assertIs(paper_holds(DRAWER, paper[:state] + (changed,) + paper[state + 1:]), False)
        self.assertIs(paper_holds(DRAWER, paper), True)


def deep(thing, change):
    """A value with all parts that are no tuples changed, and the outermost tuple, too."""
    if isinstance(thing, tuple):
        return change(tuple(deep(part, change) if isinstance(part, tuple) else change(part) for part in thing))
    return change(thing)


class TestBreaks(unittest.TestCase):

    def test_breaks_made_here(self):
        source = random.Random(4)
        answers = {True: 0, False: 0}
        for module in MODULES + tuple(random_module(seed) for seed in range(100)):
            for _ in range(3):
                row = random_row(source, module, 4)
                made = run(module, row)
                if len(made.changes) > 9:
                    continue
                lots = breaking(made)
                self.assertEqual(list(breaking_lots(module, *row)), lots)
                names = sorted(name for name, _ in made.changes)
                for lot in lots[:2] + [(), tuple(names), tuple(names[:1])]:
                    expected = lot in lots
                    answers[expected] += 1
                    self.assertIs(break_holds(module, (row, lot)), expected)
                    self.assertIs(break_holds(thing=(row, lot), module=module), expected)
                    for _ in range(5):
                        other = changed_somewhere((row, lot), source)
                        self.assertIs(break_holds(module, other), is_break(module, other))
        self.assertGreater(min(answers.values()), 200, answers)

    def test_values_of_any_kind(self):
        told = judge(LOOSE)
        self.assertIs(break_holds(LOOSE, told[1:]), True)
        row, lot = told[1:]
        for thing in ANY:
            for other in (thing, (thing, lot), (row, thing), (row, lot, thing), ((thing,), lot), (row + (thing,), lot)):
                self.assertIs(break_holds(LOOSE, other), False)
                self.assertIn(break_holds(SLOPPY, other), (True, False))
        for other in ((("add", False),), (["add", 0],), (("add",),), (("add", 0, 0),), (("add", 1),), (("add", -1),), (("sub", 0),), [("add", 0)]):
            self.assertIs(break_holds(LOOSE, (other, lot)), False)
        self.assertIs(break_holds(LOOSE, (row, list(lot))), False)
        self.assertIs(break_holds(LOOSE, [row, lot]), False)
        self.assertIs(break_holds(LOOSE, (row * 60, lot)), True)
        self.assertIs(break_holds(LOOSE, (row * 61, lot)), False)

    def test_great_histories(self):
        start = time.perf_counter()
        body = tuple(("put", ((cell, ("plus", ("cell", cell), 1)),), ("h",), "h") for cell in (X, Y) * 20)
        module = Module(((X, 8, 0), (Y, 8, 0)), ("h",), (("add", 1, body),), (("not", ("same", ("cell", X), 7)), ()))
        row = (("add", 0),) * 60
        self.assertIs(break_holds(module, (row, ())), False)
        lot = next(iter(breaking_lots(module, ("add", 0))))
        self.assertIs(break_holds(module, (row, lot)), True)
        self.assertLess(time.perf_counter() - start, 20)

    def test_breaking_lots_one_by_one(self):
        self.assertEqual(list(breaking_lots(LOOSE, ("add", 0))), [("b",)])
        self.assertEqual(list(breaking_lots(DRAWER, ("add", 0))), [])
        self.assertEqual(list(breaking_lots(LOOSE)), [])
        every = list(breaking_lots(LOOSE, ("add", 0), ("add", 0), ("add", 0)))
        self.assertEqual(list(itertools.islice(breaking_lots(LOOSE, ("add", 0), ("add", 0), ("add", 0)), 2)), every[:2])


def is_break(module, thing):
    """Point 29, word by word, for any value."""
    if not isinstance(thing, tuple) or len(thing) != 2 or not all(isinstance(part, tuple) for part in thing):
        return False
    row, lot = thing
    if not all(isinstance(part, tuple) and len(part) == 2 and isinstance(part[0], str) and type(part[1]) is int
               and part in module.inputs for part in row):
        return False
    if len(row) > 60 or not all(isinstance(name, str) for name in lot):
        return False
    return lot in breaking(run(module, row))


class TestSpared(unittest.TestCase):

    def test_against_going_through_the_names(self):
        shorter = kept = 0
        for module in MODULES + tuple(random_module(seed) for seed in range(120)):
            try:
                told = judge(module, limit=60)
                expected = spared_by_hand(module, lambda tried: judge(tried, limit=60)[0] == "keeps")
            except TooMany:
                with self.assertRaises(TooMany):
                    spared(module, limit=60)
                continue
            if told[0] == "breaks":
                with self.assertRaises(NoModule) as caught:
                    spared(module, limit=60)
                self.assertEqual(caught.exception.part, "promise")
                continue
            least = spared(module, limit=60)
            self.assertEqual(least, expected)
            self.assertEqual(spared(limit=60, module=module), least)
            self.assertEqual(spared(least, limit=60), least)
            self.assertEqual(judge(least, limit=60)[0], "keeps")
            shorter += least != module
            kept += any(list(places_of_after(body)) for _, _, body in least.operations)
        self.assertGreater(shorter, 20)
        self.assertGreaterEqual(kept, 2)

    def test_by_hand(self):
        self.assertEqual(spared(DRAWER), DRAWER)
        self.assertEqual(spared(TURNS), spared(spared(TURNS)))
        least = spared(JOURNAL).operations[0][2]
        self.assertEqual([statement[2] for statement in least[0][2]], [(), ("e",)])

    def test_errors(self):
        for limit in (0, 1):
            with self.assertRaises(TooMany) as caught:
                spared(DRAWER, limit=limit)
            self.assertEqual(caught.exception.limit, limit)
        with self.assertRaises(NoModule) as caught:
            spared(LOOSE)
        self.assertEqual(caught.exception.part, "promise")
        with self.assertRaises(TooMany):
            spared(LOOSE, limit=1)
        with self.assertRaises(TooMany):
            spared(counter(9, 9))

    def test_too_many_states_of_a_module_that_is_tried(self):
        asked = 0
        for seed in GROWING:
            module = judged_module(seed)
            counts = [reached(module)]

            def keeps(tried):
                counts.append(reached(tried))
                return judge(tried, limit=2000)[0] == "keeps"

            least = spared_by_hand(module, keeps)
            for limit in range(counts[0], max(counts)):
                asked += 1
                with self.assertRaises(TooMany) as caught:
                    spared(module, limit=limit)
                self.assertEqual(caught.exception.limit, limit)
            self.assertEqual(spared(module, limit=max(counts)), least)
        self.assertGreater(asked, 20)


def reached(module):
    """How many reached states a module has."""
    low, high = 0, 2000
    while low + 1 < high:
        middle = (low + high) // 2
        try:
            judge(module, limit=middle)
            high = middle
        except TooMany:
            low = middle
    return high
