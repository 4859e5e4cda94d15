"""Points 15 and 16: the least and the greatest lot that fit a wish, and refusals."""

import random
import unittest

from heldparts.fitting import fits, fitting, refusal_holds
from heldparts.lots import lots
from heldparts.stores import Store
from tests.edit_samples import random_store, random_wish, store_with
from tests.lot_model import fits as model_fits
from tests.lot_model import is_refusal, model_of
from tests.samples import ANY, BARE, CHAIN, NOTHING, ONE, X, Y
from tests.test_lots import row_of

STORES = (tuple(random_store(random.Random(seed), 7, least=2) for seed in range(250))
          + tuple(store_with(seed) for seed in range(100)) + (ONE, BARE, CHAIN, NOTHING))


def wishes(count=4):
    """Stores with their models and some wishes for each."""
    source = random.Random(7)
    for store in STORES:
        model = model_of(store)
        for _ in range(count):
            yield store, model, random_wish(source, store)


def asked(question, store, *more, wish):
    seen, has, lacks, done = wish
    return question(store, *more, seen, has=has, lacks=lacks, done=done)


def refused(count=4):
    """Of these the wishes that no lot fits, with the refusal that is returned."""
    for store, model, wish in wishes(count):
        told = asked(fitting, store, wish=wish)
        if told[0] == "none":
            yield store, model, wish, told[1]


def all_steps(store, wish):
    """Every step that could be one of a refusal: a word with names and cells."""
    names, cells = store.names, store.cells
    steps = [("has", name) for name in names] + [("lacks", name) for name in names] + [("never", cell) for cell in cells]
    steps += [(word, name, cell) for word in ("done", "value") for name in names for cell in cells]
    return steps + [("before", name, other) for name in names for other in names]


def made_refusal(source, store, model, wish):
    """A refusal that is made step by step, each one any that forces, with needless and repeated ones; or None."""
    steps = []
    choices = all_steps(store, wish)
    for _ in range(60):
        source.shuffle(choices)
        for step in choices:
            if step[0] in ("lacks", "never") and is_refusal(model, tuple(steps) + (step,), *wish):
                return tuple(steps) + (step,)
        for step in choices:
            if step[0] not in ("lacks", "never") and can_follow(model, steps, step, wish):
                steps.append(step)
                break
        else:
            return None
    return None


def can_follow(model, steps, step, wish):
    """Whether a step forces: with a name to lack that it forces, an ending holds that did not hold before."""
    seen, has, _, done = wish
    return is_refusal(model, tuple(steps) + (step, ("lacks", step[1])), seen, has, (step[1],), done)


class TestFitting(unittest.TestCase):

    def test_against_all_lots(self):
        counts = {"lots": 0, "none": 0}
        for store, model, wish in wishes():
            found = [lot for lot in model.lots() if model_fits(model, lot, *wish)]
            told = asked(fitting, store, wish=wish)
            counts[told[0]] += 1
            if found:
                self.assertEqual(told, ("lots", found[0], found[-1]))
                self.assertTrue(all(set(found[0]) <= set(lot) <= set(found[-1]) for lot in found))
            else:
                self.assertEqual(told[0], "none")
                self.assertEqual(len(told), 2)
                self.assertIs(is_refusal(model, told[1], *wish), True)
        self.assertGreater(min(counts.values()), 300)

    def test_each_lot_asked_whether_it_fits(self):
        for store, model, wish in wishes(2):
            for lot in model.lots():
                self.assertIs(asked(fits, store, lot, wish=wish), model_fits(model, lot, *wish))

    def test_no_wish_at_all(self):
        for store in STORES:
            self.assertEqual(fitting(store), ("lots", (), store.names))
            self.assertIs(all(fits(store, lot) for lot in lots(store)), True)
            self.assertIs(refusal_holds(store, ()), False)

    def test_what_a_lot_is_wished_by(self):
        for store in STORES:
            model = model_of(store)
            for lot in model.lots()[::3]:
                content, done = model.content(lot), model.done(lot)
                lacks = tuple(name for name in store.names if name not in lot)
                self.assertEqual(fitting(store, content, has=lot, lacks=lacks, done=done), ("lots", lot, lot))
                self.assertEqual(fitting(store, has=lot), ("lots", lot, store.names))
                self.assertEqual(fitting(store, lacks=lacks), ("lots", (), lot))
                self.assertIs(fits(store, lot, content, has=lot, lacks=lacks, done=done), True)

    def test_examples(self):
        told = [fitting(ONE, ((X, 0),)), fitting(ONE, ((X, 1),), has=("k",))]
        self.assertEqual(told, [("lots", (), ("a", "b", "k")), ("lots", ("a", "k"), ("a", "k"))])
        self.assertEqual(fitting(ONE, lacks=("k",), done=(X,))[0], "none")
        self.assertIs(refusal_holds(
            ONE, (("done", "b", X), ("before", "k", "b"), ("lacks", "k")), lacks=("k",), done=(X,)), True)

    def test_parts_by_name(self):
        self.assertEqual(fitting(store=ONE, seen=((X, 1),)), ("lots", ("a",), ("a", "k")))
        self.assertIs(fits(store=ONE, lot=("a",), seen=((X, 1),), done=()), True)
        self.assertIs(refusal_holds(store=ONE, thing=(("never", X),), seen=((X, 2),)), True)
        for question, arguments in ((fitting, (ONE,)), (fits, (ONE, ())), (refusal_holds, (ONE, ()))):
            with self.assertRaises(TypeError):
                question(*arguments, (), ("a",))

    def test_to_have_and_to_lack(self):
        self.assertEqual(fitting(ONE, has=("a",), lacks=("a",)), ("none", (("has", "a"), ("lacks", "a"))))
        self.assertEqual(fitting(ONE, ((Y, 7),)), ("none", (("never", Y),)))
        self.assertEqual(fitting(BARE, ((X, 0),), done=(X,)), ("lots", (), ("k",)))
        self.assertEqual(fitting(BARE, ((X, 1),), done=(X,)), ("none", (("never", X),)))

    def test_twenty_four_in_a_row(self):
        store, names = row_of(24)
        content = dict(store.disk)
        content[(0, 2)] = 12
        told = fitting(store, tuple(sorted(content.items()))[2:3])
        self.assertEqual(told, ("lots", tuple(sorted(names[:13])), tuple(sorted(names[:17]))))
        told = fitting(store, (((0, 0), 20), ((0, 1), 11)))
        self.assertEqual(told[0], "none")
        self.assertIs(refusal_holds(store, told[1], (((0, 0), 20), ((0, 1), 11))), True)
        self.assertIs(is_refusal(model_of(store), told[1], (((0, 0), 20), ((0, 1), 11)), (), (), ()), True)
        steps = tuple(("before", name, names[23]) for name in names[22::-1])
        whole = (("has", names[23]),) + steps + (("lacks", names[0]),)
        self.assertIs(refusal_holds(store, whole, has=(names[23],), lacks=(names[0],)), True)


class TestRefusals(unittest.TestCase):

    def test_refusals_that_are_made_in_any_order(self):
        source = random.Random(3)
        made = []
        for store, model, wish, _ in refused(3):
            steps = made_refusal(source, store, model, wish)
            if steps is not None:
                made.append(len(steps))
                self.assertIs(asked(refusal_holds, store, steps, wish=wish), True)
        self.assertGreater(len(made), 200)
        self.assertGreater(max(made), 8)

    def test_one_thing_put_otherwise(self):
        source = random.Random(4)
        answers = {True: 0, False: 0}
        for store, model, wish, steps in refused(2):
            choices = all_steps(store, wish)
            changed = [steps[:at] + steps[at + 1:] for at in range(len(steps))]
            changed += [steps[:at] + steps[at:at + 2][::-1] + steps[at + 2:] for at in range(len(steps) - 1)]
            changed += [steps[:at] + steps[at:at + 1] + steps[at:] for at in range(len(steps))]
            changed += [steps[:at] + (source.choice(choices),) + steps[at + 1:] for at in range(len(steps))]
            changed += [steps[:at] + (source.choice(choices),) + steps[at:] for at in range(len(steps))]
            changed += [steps[:-1] + (source.choice(choices),) for _ in range(6)]
            for thing in changed:
                expected = len(thing) > 0 and is_refusal(model, thing, *wish)
                answers[expected] += 1
                self.assertIs(asked(refusal_holds, store, thing, wish=wish), expected)
        self.assertGreater(min(answers.values()), 500)

    def test_random_rows_of_steps_for_any_wish(self):
        source = random.Random(5)
        for store, model, wish in wishes(2):
            choices = all_steps(store, wish)
            for _ in range(5):
                thing = tuple(source.choice(choices) for _ in range(source.randint(1, 4))) if choices else ()
                expected = len(thing) > 0 and is_refusal(model, thing, *wish)
                self.assertIs(asked(refusal_holds, store, thing, wish=wish), expected)

    def test_a_wish_that_fits_has_none(self):
        source = random.Random(6)
        for store, model, wish in wishes(1):
            if asked(fitting, store, wish=wish)[0] == "lots":
                self.assertIsNone(made_refusal(source, store, model, wish))

    def test_steps_of_another_kind(self):
        wish = {"lacks": ("k",), "done": (X,), "has": ("a",), "seen": ((X, 0), (Y, 0))}
        right = (("has", "a"), ("done", "b", X), ("before", "k", "b"), ("lacks", "k"))
        self.assertIs(refusal_holds(ONE, right, **wish), True)
        self.assertIs(refusal_holds(ONE, (("value", "b", X), ("done", "b", X), ("before", "k", "b"), ("lacks", "k")), **wish),
                      False)
        for at, step in enumerate(right):
            others = list(ANY) + [list(step), step + (0,), step[:-1], (step[0],), (), (step,), step[::-1]]
            for spot in range(len(step)):
                others += [step[:spot] + (thing,) + step[spot + 1:] for thing in ANY if thing != step[spot]]
            for other in others:
                self.assertIs(refusal_holds(ONE, right[:at] + (other,) + right[at + 1:], **wish), False)

    def test_other_endings(self):
        seen = ((X, 1), (Y, 5))
        self.assertIs(refusal_holds(ONE, (("never", Y),), seen), True)
        for step in (("Never", Y), ("value", Y), ("has", Y), ("lacks", Y), ("done", Y), ("", Y), (None, Y), ("never", X),
                     ("never", (0, 1)), ("never", "a"), ("never", None), ("never",), ("never", Y, Y), ["never", Y]):
            self.assertIs(refusal_holds(ONE, (step,), seen), False)
        self.assertIs(refusal_holds(ONE, (("never", Y),), seen[:1]), False)
        self.assertIs(refusal_holds(ONE, (("never", Y), ("never", Y)), seen), False)
        self.assertIs(refusal_holds(ONE, (("has", "a"), ("has", "a")), has=("a",), lacks=("a",)), False)

    def test_true_and_false_are_no_numbers_of_a_cell(self):
        self.assertIs(refusal_holds(ONE, (("never", (False, 0)),), ((X, 7),)), False)
        self.assertIs(refusal_holds(ONE, (("never", (0, False)),), ((X, 7),)), False)
        self.assertIs(refusal_holds(ONE, (("done", "b", (0, False)), ("lacks", "b")), lacks=("b",), done=(X,)), False)
        self.assertIs(refusal_holds(ONE, (("value", "k", (True, 0)), ("lacks", "k")), ((Y, 1),), lacks=("k",)), False)
        self.assertIs(refusal_holds(ONE, (("value", "k", Y), ("lacks", "k")), ((Y, 1),), lacks=("k",)), True)

    def test_any_value(self):
        for store, wish in ((ONE, {}), (CHAIN, {"has": ("a",), "lacks": ("a",)}), (NOTHING, {})):
            for thing in ANY:
                self.assertIs(refusal_holds(store, thing, **wish), False)
                self.assertIs(refusal_holds(store, (thing,), **wish), False)
                self.assertIs(refusal_holds(store, [("has", "a"), ("lacks", "a")], **wish), False)

    def test_long_ones(self):
        row = (("has", "a"),) * 3000
        self.assertIs(refusal_holds(ONE, row + (("lacks", "a"),), has=("a",), lacks=("a",)), True)
        self.assertIs(refusal_holds(ONE, row + (("lacks", "b"),), has=("a",), lacks=("b",)), False)
        self.assertIs(refusal_holds(ONE, row, has=("a",), lacks=("a",)), False)
