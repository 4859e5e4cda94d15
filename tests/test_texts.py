"""Point 32: the text of a store, and reading it."""

import random
import re
import unittest

from heldparts.errors import InvalidText
from heldparts.numerals import integer_in, numeral
from heldparts.stores import Store
from tests.model import assert_store, pairs_before, store_error, text_of
from tests.samples import ANY, BARE, BIG, CHAIN, EMPTY, NOTHING, ONE, random_parts

ONE_TEXT = "cell 0.0 0\ncell 1.0 0\nchange a 0.0=1\nchange b 0.0=0\nchange k 1.0=1\ntie b a\ntie b k"
CHAIN_TEXT = (
    "cell 0.0 7\ncell 0.1 8\ncell 0.2 9\ncell 4.0 -1\nchange a 0.0=1\nchange b 0.0=2\nchange c 0.0=3\n"
    "change d 0.0=4 0.1=5 0.2=6\nchange e 4.0=-2\ntie b a\ntie c b\ntie d c")
NUMBER = r"(0|[1-9][0-9]*)"
VALUE = r"(0|-?[1-9][0-9]*)"


def model_parts(text):
    """The parts of the store with a text, or None if no store has it."""
    if text == "":
        return (), (), ()
    disk, changes, ties = [], [], []
    for line in text.split("\n"):
        if found := re.fullmatch(rf"cell {NUMBER}\.{NUMBER} {VALUE}", line):
            disk.append(((int(found[1]), int(found[2])), int(found[3])))
        elif found := re.fullmatch(rf"change ([a-z]{{1,8}})(( {NUMBER}\.{NUMBER}={VALUE})+)", line):
            writes = re.findall(rf"{NUMBER}\.{NUMBER}={VALUE}", found[2])
            changes.append((found[1], tuple(((int(block), int(place)), int(value)) for block, place, value in writes)))
        elif found := re.fullmatch(r"tie ([a-z]+) ([a-z]+)", line):
            ties.append((found[1], found[2]))
        else:
            return None
    for content in [disk] + [writes for _, writes in changes]:
        cells = [cell for cell, _ in content]
        if cells != sorted(set(cells)):
            return None
    if any(len({cell[0] for cell, _ in writes}) != 1 for _, writes in changes):
        return None
    if store_error(disk, changes, ties) is not None:
        return None
    if text_of(disk, changes, pairs_before([name for name, _ in changes], ties)) != text:
        return None
    return tuple(disk), tuple(changes), tuple(ties)


class TestTexts(unittest.TestCase):

    def assert_invalid(self, thing):
        with self.subTest(thing=repr(thing)[:200]):
            with self.assertRaises(InvalidText):
                Store.read(thing)

    def assert_as_model(self, text):
        parts = model_parts(text)
        if parts is None:
            self.assert_invalid(text)
        else:
            assert_store(self, Store.read(text), *parts)
            self.assertEqual(Store.read(text).text, text)

    def test_texts_that_are_known(self):
        self.assertEqual(ONE.text, ONE_TEXT)
        self.assertEqual(CHAIN.text, CHAIN_TEXT)
        self.assertEqual(BARE.text, "cell 0.0 0\ncell 1.0 0\nchange k 1.0=1")
        self.assertEqual(EMPTY.text, "cell 0.0 0\ncell 1.0 0")
        self.assertEqual(NOTHING.text, "")

    def test_there_and_back(self):
        for store in [ONE, BARE, CHAIN, EMPTY, NOTHING] + [Store(*random_parts(seed)) for seed in range(300)]:
            again = Store.read(text=store.text)
            self.assertEqual(again, store)
            assert_store(self, again, store.disk, store.changes, store.ties)

    def test_cells_ascend_by_number_not_by_sign(self):
        store = Store((((2, 9), 0), ((2, 10), 0), ((10, 0), 0)), (("a", (((2, 9), 1), ((2, 10), 1))),), ())
        self.assertEqual(store.text, "cell 2.9 0\ncell 2.10 0\ncell 10.0 0\nchange a 2.9=1 2.10=1")
        self.assertEqual(Store.read(store.text), store)
        self.assert_invalid("cell 10.0 0\ncell 2.9 0")
        self.assert_invalid("cell 2.10 0\ncell 2.9 0")

    def test_long_integers(self):
        for digits in (39, 40, 41, 63, 64, 65, 127, 128, 129, 4300, 4301, 20000):
            for value in (10 ** digits, 10 ** digits - 1, 10 ** (digits - 1) + 7, -(10 ** digits), 1 - 10 ** digits):
                store = Store((((10 ** digits, 10 ** digits + 1), value),), (), ())
                zeros = "0" * digits
                told = store.text.split(" ")
                self.assertEqual(told[:2], ["cell", "1" + zeros + ".1" + zeros[1:] + "1"])
                self.assertEqual(len(told[2].lstrip("-")), len(numeral(abs(value))))
                self.assertEqual(Store.read(store.text), store)
        self.assertEqual(Store.read("cell 0.0 " + "9" * 4000).disk[0][1], 10 ** 4000 - 1)
        self.assertEqual(Store.read("cell 0.0 -" + "9" * 9000).disk[0][1], 1 - 10 ** 9000)
        self.assertEqual(Store.empty((((0, 0), -BIG),)).text, "cell 0.0 -" + "9" * 40)

    def test_one_sign_put_otherwise(self):
        for text in (ONE_TEXT, CHAIN_TEXT, "cell 0.0 -10", "cell 10.0 0\nchange ab 10.0=-1"):
            for at in range(len(text) + 1):
                self.assert_as_model(text[:at] + text[at + 1:])
                for sign in "0 -=.\nat1A_+\t~":
                    self.assert_as_model(text[:at] + sign + text[at:])
                    self.assert_as_model(text[:at] + sign + text[at + 1:])

    def test_every_sign_in_a_short_text(self):
        text = "cell 0.0 10\nchange a 0.0=-1"
        for at in range(len(text) + 1):
            for sign in [chr(code) for code in range(32, 127)]:
                self.assert_as_model(text[:at] + sign + text[at:])
                self.assert_as_model(text[:at] + sign + text[at + 1:])

    def test_one_word_put_otherwise(self):
        words = ("", "cell", "change", "tie", "a", "b", "k", "z", "0.0", "1.0", "0", "-0", "00", "0.0=1", "1.0=-0")
        for text in (ONE_TEXT, CHAIN_TEXT):
            for found in re.finditer(r"[^ \n]+", text):
                for word in words:
                    self.assert_as_model(text[:found.start()] + word + text[found.end():])
                    self.assert_as_model(text[:found.end()] + " " + word + text[found.end():])

    def test_lines_left_out_twice_or_moved(self):
        for text in (ONE_TEXT, CHAIN_TEXT):
            lines = text.split("\n")
            for at, line in enumerate(lines):
                others = lines[:at] + lines[at + 1:]
                self.assert_as_model("\n".join(others))
                for to in range(len(lines) + 1):
                    self.assert_as_model("\n".join(lines[:to] + [line] + lines[to:]))
                    if to < len(lines):
                        self.assert_as_model("\n".join(others[:to] + [line] + others[to:]))

    def test_random_cuts(self):
        source = random.Random(5)
        for seed in range(300):
            text = Store(*random_parts(seed)).text
            start = source.randint(0, len(text))
            end = min(len(text), start + source.randint(0, 8))
            self.assert_as_model(text[:start] + text[end:])
            self.assert_as_model(text[:end] + text[start:])

    def test_texts_of_no_store(self):
        for text in (
                "\n", " ", "cell", "cell ", "cell 0.0", "cell 0.0 ", "cell 0.0 0 ", " cell 0.0 0", "cell  0.0 0",
                "cell 0.0 0\n", "\ncell 0.0 0", "cell 0.0 0\n\ncell 0.1 0", "cell 0.0 0 0", "cell 0 0", "cell 0. 0",
                "cell .0 0", "cell 0.0.0 0", "cell -1.0 0", "cell 0.-1 0", "cell -0.0 0", "cell 00.0 0", "cell 0.01 0",
                "cell 0.0 -0", "cell 0.0 00", "cell 0.0 01", "cell 0.0 -01", "cell 0.0 +1", "cell 0.0 1_0",
                "cell 0.0 --1", "cell 0.0 -", "cell 0.0 0x1", "cell 0.0 1.0", "cell 0.0=0", "cell 0.0 \u0663",
                "cell 0.0 \u00b2", "Cell 0.0 0", "CELL 0.0 0", "cells 0.0 0", "cell 0.0 0\ncell 0.0 0",
                "cell 0.0 0\ncell 0.0 1", "cell 1.0 0\ncell 0.0 0", "cell 0.0 0\r\ncell 0.1 0", "cell\t0.0 0",
                "change a 0.0=1", "cell 0.0 0\nchange a", "cell 0.0 0\nchange a ", "cell 0.0 0\nchange 0.0=1",
                "cell 0.0 0\nchange  0.0=1", "cell 0.0 0\nchange a 0.0", "cell 0.0 0\nchange a 0.0=",
                "cell 0.0 0\nchange a =1", "cell 0.0 0\nchange a 0.0==1", "cell 0.0 0\nchange a 0.0=1=1",
                "cell 0.0 0\nchange a 0.0=1 0.0=1", "cell 0.0 0\nchange a 1.0=1", "cell 0.0 0\nchange A 0.0=1",
                "cell 0.0 0\nchange abcdefghi 0.0=1", "cell 0.0 0\nchange a1 0.0=1",
                "cell 0.0 0\ncell 0.1 0\nchange a 0.1=1 0.0=1", "cell 0.0 0\ncell 1.0 0\nchange a 0.0=1 1.0=1",
                "change a 0.0=1\ncell 0.0 0", "cell 0.0 0\nchange a 0.0=1\nchange a 0.0=1",
                "cell 0.0 0\nchange a 0.0=1\nchange b 0.0=1", "cell 0.0 0\nchange a 0.0=1\ntie a a",
                "cell 0.0 0\nchange a 0.0=1\ntie a b", "cell 0.0 0\ntie a b", "tie a b",
                "cell 0.0 0\nchange a 0.0=1\ntie a", "cell 0.0 0\nchange a 0.0=1\ntie"):
            self.assert_invalid(text)

    def test_ties_that_follow_or_close_a_ring_or_come_twice(self):
        for tie in ("tie b a", "tie c a", "tie d a", "tie d b", "tie a d", "tie a b", "tie a c", "tie e e", "tie e z"):
            self.assert_invalid(CHAIN_TEXT + "\n" + tie)
            self.assert_invalid(CHAIN_TEXT.replace("tie c b", "tie c b\n" + tie))
        self.assertEqual(Store.read(CHAIN_TEXT + "\ntie e d").ahead_of("e"), ("a", "b", "c", "d"))

    def test_values_of_any_other_kind(self):
        for thing in ANY:
            if thing != "":
                self.assert_invalid(thing)
        for thing in ([ONE_TEXT], (ONE_TEXT,), {ONE_TEXT: ONE_TEXT}, ONE_TEXT.encode(), ONE, 1.5):
            self.assert_invalid(thing)


class TestNumerals(unittest.TestCase):

    def test_as_python_writes_them(self):
        for number in list(range(-1200, 1200)) + [10 ** 64, 10 ** 64 - 1, 10 ** 130 + 5, -(10 ** 64), BIG, -BIG]:
            self.assertEqual(numeral(number), str(number))
            self.assertEqual(integer_in(str(number)), number)

    def test_words_that_are_no_integers(self):
        for word in ("", "-", "-0", "00", "01", "-01", "+1", "1 ", " 1", "1_0", "1.0", "a", "--1", "1-", "\n1"):
            self.assertIsNone(integer_in(word))
