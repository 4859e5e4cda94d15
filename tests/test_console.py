"""Point 34: the console, its commands, what is none, and what is taken back."""

import random
import re
import unittest

from heldparts.console import Console
from heldparts.edits import Edit
from heldparts.errors import InvalidCommand, NoEdit, NothingDone, TooMany
from heldparts.forms import is_change
from heldparts.kinds import Drop, Join, Tie
from heldparts.stores import Store
from tests.lot_model import model_of, table_choices
from tests.samples import ANY, BIG

NUMBER = r"(?:0|-?[1-9][0-9]*)"
CELL = r"(?:0|[1-9][0-9]*)\.(?:0|[1-9][0-9]*)"
NAME = r"[a-z]{1,8}"
START = ("cell 0.0 0", "cell 0.1 0", "cell 1.0 0", "change a 0.0=1", "change b 0.0=2 0.1=1 after a", "change k 1.0=1", "keep k", "mark")


class Wrong(Exception):
    """The model's word for a command that is none."""


class Nothing(Exception):
    """The model's word for nothing to take back."""


def cell_of(word):
    block, place = word.split(".")
    return int(block), int(place)


def write_of(word):
    cell, value = word.split("=")
    return cell_of(cell), int(value)


def ascends(row):
    return list(row) == sorted(set(row))


class ConsoleModel:
    """Point 34 word by word."""

    def __init__(self):
        self.store, self.kept, self.before = Store((), (), ()), (), None
        self.past = []

    def say(self, command):
        if not isinstance(command, str):
            raise Wrong
        for pattern, action in (
                (rf"cell ({CELL}) ({NUMBER})", self.cell), (rf"change ({NAME})((?: {CELL}={NUMBER})+)(?: after((?: {NAME})+))?", self.change),
                (rf"keep ({NAME})", self.keep), (rf"release ({NAME})", self.release), (rf"tie ({NAME}) ({NAME})", self.tie),
                (rf"join ({NAME}) ({NAME})", self.join), (rf"drop ({NAME})", self.drop), ("mark", self.mark)):
            match = re.fullmatch(pattern, command)
            if match:
                state = (self.store, self.kept, self.before)
                action(*match.groups())
                self.past.append(state)
                return "ok"
        for pattern, action in (
                ("judge", self.judge), ("lots", self.lots), (rf"found((?: {CELL}={NUMBER})+)", self.found), ("text", self.text),
                ("undo", self.undo)):
            match = re.fullmatch(pattern, command)
            if match:
                return action(*match.groups())
        raise Wrong

    def needs(self, *holds):
        if not all(holds):
            raise Wrong

    def cell(self, cell, value):
        self.needs(cell_of(cell) not in self.store.cells)
        self.store = Store(tuple(sorted(self.store.disk + ((cell_of(cell), int(value)),))), self.store.changes, self.store.ties)

    def change(self, name, writes, after):
        writes = tuple(write_of(word) for word in writes.split())
        after = tuple((after or "").split())
        self.needs(is_change((name, writes)), name not in self.store.names, ascends(after), set(after) <= set(self.store.names))
        self.needs({cell for cell, _ in writes} <= set(self.store.cells))
        ties = [(last, first) for first, last in model_of(self.store).pairs] + [(name, other) for other in after]
        ties += [(name, other) for cell, _ in writes for other in self.store.row(cell)]
        self.store = Store(self.store.disk, self.store.changes + ((name, writes),), tuple(ties))

    def keep(self, name):
        self.needs(name in self.store.names, name not in self.kept)
        self.kept = tuple(sorted(self.kept + (name,)))

    def release(self, name):
        self.needs(name in self.kept)
        self.kept = tuple(other for other in self.kept if other != name)

    def tie(self, later, earlier):
        self.needs(later in self.store.names, earlier in self.store.names)
        self.store = Tie(self.store, later, earlier, self.kept).after

    def join(self, first, second):
        self.needs(first in self.store.names, second in self.store.names)
        self.store = Join(self.store, first, second, self.kept).after

    def drop(self, name):
        self.needs(name in self.store.names)
        self.store = Drop(self.store, name, self.kept).after

    def mark(self):
        self.before = (self.store, self.kept)

    def judge(self):
        self.needs(self.before is not None)
        store, kept = self.before
        now = dict(self.store.changes)
        self.needs(store.disk == self.store.disk, all(dict(store.changes)[name] == now.get(name) for name in kept))
        if len(model_of(self.store).lots()) > 500:
            raise TooMany(500)
        edit = Edit(store, self.store, kept)
        if table_choices(edit) is not None and model_of(store).memory() == model_of(self.store).memory():
            return "unnoticed"
        if model_of(store).memory() != model_of(self.store).memory():
            return "noticed memory"
        return "noticed ring" if model_of(store).shown(kept) != model_of(self.store).shown(kept) else "noticed lot"

    def lots(self):
        return str(len(model_of(self.store).lots()))

    def found(self, seen):
        seen = [write_of(word) for word in seen.split()]
        self.needs(ascends([cell for cell, _ in seen]), {cell for cell, _ in seen} <= set(self.store.cells))
        model = model_of(self.store)
        fitting = [lot for lot in model.lots() if all(dict(model.content(lot))[cell] == value for cell, value in seen)]
        if not fitting:
            return "none"
        return " / ".join(" ".join(lot) or "-" for lot in (min(fitting, key=len), max(fitting, key=len)))

    def text(self):
        return self.store.text.replace("\n", " ; ")

    def undo(self):
        if not self.past:
            raise Nothing
        self.store, self.kept, self.before = self.past.pop()
        return "ok"


def answer(thing, command):
    """The answer, or the error in words."""
    try:
        return thing.say(command)
    except (Wrong, InvalidCommand):
        return InvalidCommand
    except (Nothing, NothingDone):
        return NothingDone
    except (NoEdit, TooMany) as error:
        return type(error), vars(error)


def variants(command, source):
    """Commands like a right one: words left out, twice, exchanged, put otherwise."""
    words = command.split(" ")
    found = []
    for at, word in enumerate(words):
        found += [words[:at] + words[at + 1:], words[:at] + [word] + words[at:], words[:at] + [""] + words[at:]]
        for other in (word.upper(), word + " ", " " + word, word + "\n", "\n" + word, word + "x", "0" + word, "+" + word, "-" + word,
                      word.replace("=", " "), word.replace(".", ""), word.replace("=", "=0"), word.replace("=", "=-"), word.replace("=", "==")):
            found.append(words[:at] + [other] + words[at + 1:])
        other = source.choice(["a", "b", "k", "after", "cell", "mark", "zz", "0.0", "1.0=1", "0.0=0", "1", "-0", "", "undo", "lots"])
        found.append(words[:at] + [other] + words[at + 1:])
        found.append(words[:at] + [other] + words[at:])
        if at:
            found.append(words[:at - 1] + [word, words[at - 1]] + words[at + 1:])
    return [" ".join(parts) for parts in found]


class TestConsole(unittest.TestCase):

    def assert_same(self, console, model, command):
        told, wanted = answer(console, command), answer(model, command)
        self.assertEqual(told, wanted, command)
        if isinstance(wanted, str):
            self.assertIs(type(told), str)
        return wanted

    def random_command(self, source, model):
        names = list(model.store.names) or ["a"]
        cells = [".".join(map(str, cell)) for cell in model.store.cells] or ["0.0"]
        way = source.choice(["cell", "change", "change", "change", "keep", "release", "tie", "tie", "join", "join", "drop", "mark", "judge",
                             "judge", "lots", "found", "found", "text", "undo"])
        if way == "cell":
            return f"cell {source.choice(['0', '1', '7'])}.{source.choice(['0', '1', '12'])} {source.choice([0, 0, 1, -5, BIG])}"
        if way == "change":
            block = source.choice(cells).split(".")[0]
            near = [cell for cell in cells if cell.split(".")[0] == block]
            written = sorted(source.sample(near, source.randint(1, len(near))), key=cell_of)
            text = f"change {source.choice(['a', 'b', 'c', 'k', 'after', 'cell', 'mark', 'zzzzzzzz'])}"
            text += "".join(f" {cell}={source.randint(0, 1)}" for cell in written)
            if source.random() < 0.3:
                text += " after " + " ".join(sorted(source.sample(names, source.randint(1, min(2, len(names))))))
            return text
        if way in ("keep", "release", "drop"):
            return f"{way} {source.choice(names + ['nobody'])}"
        if way in ("tie", "join"):
            return f"{way} {source.choice(names)} {source.choice(names)}"
        if way == "found":
            seen = sorted(source.sample(cells, source.randint(1, min(2, len(cells)))), key=cell_of)
            return "found " + " ".join(f"{cell}={source.randint(0, 1)}" for cell in seen)
        return way

    def test_random_sessions(self):
        answers = {}
        for seed in range(150):
            source = random.Random(seed)
            console, model = Console(), ConsoleModel()
            for line in START[:source.choice([0, 3, 8])]:
                self.assert_same(console, model, line)
            for _ in range(40):
                command = self.random_command(source, model)
                if len(model.store) > 6 and command.startswith("change"):
                    continue
                told = self.assert_same(console, model, command)
                key = told if isinstance(told, str) and (told.split() or [""])[0] in ("ok", "unnoticed", "noticed", "none") else str(told)[:40]
                answers[key] = answers.get(key, 0) + 1
                self.assert_same(console, model, "text")
        for key in ("ok", "unnoticed", "noticed memory", "noticed ring", "none", str(InvalidCommand)[:40], str(NothingDone)[:40]):
            self.assertGreater(answers.get(key, 0), 9, key)

    def test_every_command_and_what_is_none(self):
        source = random.Random(3)
        lines = START + ("tie k b", "judge", "lots", "found 0.0=1 1.0=0", "text", "join a b", "release k", "drop k", "cell 12.34 -567",
                         "change after 12.34=-1", "change cell 12.34=7 after a after", "change mark 0.0=0 0.1=0 after after cell",
                         "found 12.34=7", "keep after", "release after", "drop mark", "text", "judge", "mark", "judge", "undo", "undo")
        console, model = Console(), ConsoleModel()
        for line in lines:
            for other in variants(line, source) + [line + " " + line, line + ";", "", " ", "\n"]:
                if other != line:
                    told = self.assert_same(console, model, other)
                    if isinstance(told, str) and other.split(" ")[0] not in ("judge", "lots", "found", "text"):
                        if other != "undo":
                            self.assertEqual(self.assert_same(console, model, "undo"), "ok")
                    self.assert_same(console, model, "text")
            self.assert_same(console, model, line)

    def test_values_of_any_kind(self):
        console, model = Console(), ConsoleModel()
        for line in START:
            self.assert_same(console, model, line)
        for thing in ANY + (b"text", ["text"], ("text",), {"text": 1}, 1.5):
            if thing != "text":
                self.assertRaises(InvalidCommand, console.say, thing)
                for word in ("cell", "change", "keep", "release", "tie", "join", "drop", "mark", "judge", "lots", "found", "text", "undo"):
                    if isinstance(thing, str) and (word, thing) not in (("keep", "a"), ("keep", "b"), ("drop", "a"), ("drop", "b"), ("release", "k")):
                        self.assert_same(console, model, word + " " + thing)
        self.assertEqual(console.say(command="text"), model.say("text"))

    def test_after_counts_only_what_is_there(self):
        console = Console()
        console.say("cell 0.0 0")
        for line in ("change a 0.0=1 after a", "change a 0.0=1 after", "change a 0.0=1 after b", "change a after 0.0=1", "change 0.0=1",
                     "change a 0.0=1 0.0=1", "change a", "change after", "change after after", "change a 0.1=1", "change abcdefghi 0.0=1"):
            self.assertRaises(InvalidCommand, console.say, line)
        self.assertEqual(console.say("change after 0.0=1"), "ok")
        self.assertRaises(InvalidCommand, console.say, "change a 0.0=1 after after after")
        self.assertEqual(console.say("change a 0.0=1 after after"), "ok")
        self.assertRaises(InvalidCommand, console.say, "change b 0.0=1 after after a")
        self.assertEqual(console.say("change b 0.0=1 after a after"), "ok")
        self.assertEqual(console.say("text"), "cell 0.0 0 ; change a 0.0=1 ; change after 0.0=1 ; change b 0.0=1 ; tie a after ; tie b a")

    def test_edit_errors(self):
        console = Console()
        for line in START:
            console.say(line)
        for line, word in (("tie a a", "ring"), ("tie a b", "ring"), ("tie b a", "tie"), ("join a a", "same"), ("join a k", "kept"),
                           ("join k k", "kept"), ("drop k", "kept")):
            text = console.say("text")
            with self.assertRaises(NoEdit) as caught:
                console.say(line)
            self.assertEqual(caught.exception.word, word)
            self.assertEqual(console.say("text"), text)
        console.say("release k")
        with self.assertRaises(NoEdit) as caught:
            console.say("join a k")
        self.assertEqual(caught.exception.word, "block")
        console.say("change c 0.0=3")
        with self.assertRaises(NoEdit) as caught:
            console.say("join c a")
        self.assertEqual(caught.exception.word, "between")
        self.assertRaises(InvalidCommand, console.say, "join c zz")
        self.assertRaises(InvalidCommand, console.say, "tie zz zz")

    def test_too_many_lots(self):
        console = Console()
        for at in range(9):
            console.say(f"cell 0.{at} 0")
        for at in range(9):
            console.say(f"change {chr(97 + at)} 0.{at}=1")
        console.say("mark")
        self.assertEqual(console.say("lots"), "512")
        for _ in range(2):
            with self.assertRaises(TooMany) as caught:
                console.say("judge")
            self.assertEqual(caught.exception.limit, 500)
        console.say("tie b a")
        self.assertEqual((console.say("lots"), console.say("judge")), ("384", "unnoticed"))

    def test_judge_behind_other_commands(self):
        def told(*lines):
            console = Console()
            for line in START + lines:
                console.say(line)
            return answer(console, "judge")

        self.assertEqual(told(), "unnoticed")
        self.assertEqual(told("cell 5.5 0"), InvalidCommand)
        self.assertEqual(told("cell 5.5 0", "mark"), "unnoticed")
        self.assertEqual(told("cell 5.5 0", "undo"), "unnoticed")
        self.assertEqual(told("release k"), "unnoticed")
        self.assertEqual(told("release k", "drop k"), InvalidCommand)
        self.assertEqual(told("release k", "drop k", "change k 1.0=1"), "unnoticed")
        self.assertEqual(told("release k", "drop k", "change k 1.0=2"), InvalidCommand)
        self.assertEqual(told("drop a"), "unnoticed")
        self.assertEqual(told("change c 0.0=7", "change d 0.0=2"), "noticed lot")
        self.assertEqual(told("tie a k"), "noticed ring")
        self.assertEqual(told("change c 0.0=7"), "noticed memory")
        console = Console()
        self.assertRaises(InvalidCommand, console.say, "judge")
        console.say("mark")
        self.assertEqual(console.say("judge"), "unnoticed")
        console.say("undo")
        self.assertRaises(InvalidCommand, console.say, "judge")

    def test_undo(self):
        console = Console()
        self.assertRaises(NothingDone, console.say, "undo")
        texts = []
        lines = START + ("tie k b", "join a b", "release k", "mark", "cell 3.3 3") + tuple(f"cell 8.{at} {at}" for at in range(30))
        for line in lines:
            texts.append((console.say("text"), answer(console, "judge"), answer(console, "release k"), answer(console, "keep k")))
            for _ in range(2 - texts[-1][2:].count(InvalidCommand)):
                console.say("undo")
            console.say(line)
        for before in texts[::-1]:
            self.assertEqual(console.say("undo"), "ok")
            self.assertEqual((console.say("text"), answer(console, "judge")), before[:2])
            told = answer(console, "release k"), answer(console, "keep k")
            self.assertEqual(told, before[2:])
            for _ in range(2 - told.count(InvalidCommand)):
                console.say("undo")
        for _ in range(3):
            self.assertRaises(NothingDone, console.say, "undo")
        self.assertEqual(console.say("text"), "")
        # Errors and questions are not taken back.
        for line in ("cell 0.0 0", "lots", "text", "found 0.0=0"):
            console.say(line)
        self.assertRaises(InvalidCommand, console.say, "cell 0.0 0")
        self.assertEqual((console.say("undo"), console.say("text")), ("ok", ""))
        self.assertRaises(NothingDone, console.say, "undo")

    def test_questions_to_an_empty_console(self):
        console = Console()
        self.assertEqual((console.say("text"), console.say("lots")), ("", "1"))
        self.assertRaises(InvalidCommand, console.say, "found")
        self.assertRaises(InvalidCommand, console.say, "found 0.0=0")
        console.say("cell 0.0 5")
        self.assertEqual((console.say("found 0.0=5"), console.say("found 0.0=4")), ("- / -", "none"))
        self.assertRaises(InvalidCommand, console.say, "found 0.0=5 0.0=5")

    def test_long_integers(self):
        console = Console()
        self.assertEqual(console.say(f"cell {BIG}.{BIG} -{BIG}"), "ok")
        self.assertEqual(console.say(f"change a {BIG}.{BIG}={BIG}"), "ok")
        self.assertEqual(console.say("text"), f"cell {BIG}.{BIG} -{BIG} ; change a {BIG}.{BIG}={BIG}")
        self.assertEqual(console.say(f"found {BIG}.{BIG}={BIG}"), "a / a")
        for word in ("00", "-0", "+1", "1_0", "0x1", "", "-", "1.0", " 1"):
            self.assertRaises(InvalidCommand, console.say, "cell 0.0 " + word)
        for word in ("0.00", "-1.0", "0.-1", "0", "0.", ".0", "0.0.0", "0,0"):
            self.assertRaises(InvalidCommand, console.say, f"cell {word} 0")

    def test_two_consoles_by_turns(self):
        one, two = Console(), Console()
        models = ConsoleModel(), ConsoleModel()
        for at in range(60):
            source = random.Random(at)
            for console, model in zip((one, two), models):
                self.assert_same(console, model, self.random_command(source, model) if at >= 3 else START[at])
                self.assert_same(console, model, "text")
