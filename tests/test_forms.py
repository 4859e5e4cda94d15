"""Point 4 and the last sentence of point 26: cells, contents, names, changes, the n-th name."""

import copy
import unittest

from heldparts.forms import is_cell, is_change, is_content, is_name, name_of, number_of
from tests.samples import ANY, BIG, X, Y

LONG = tuple(((place // 10, place % 10), place) for place in range(5000))
CELLS = ((0, 0), (0, 1), (1, 0), (BIG, BIG), (12, 345))
NOT_CELLS = (
    (-1, 0), (0, -1), (True, 0), (0, True), (False, False), (0,), (), (0, 0, 0), ("0", 0), (0, "0"), (None, 0),
    (0, None), ([0], 0), (0, (0,)), [0, 0], {0: 0}, "00", 0, None, True, ((0, 0),), (0.0, 0), (1, 1.0), {0, 1})
NAMES = ("a", "z", "ab", "zz", "abcdefgh", "zzzzzzzz", "aaaaaaaa")
NOT_NAMES = (
    "", "abcdefghi", "A", "aB", "Abcdefgh", "a1", "1", "a b", " a", "a ", "a\n", "\n", "a_", "a.b", "`", "{", "@",
    "a" * 4000, None, True, False, 0, 1, ("a",), ["a"], {"a": "a"}, (), b"a", "\u00e4", "\u0131")
CONTENTS = (
    (), ((X, 0),), ((X, -5),), ((X, BIG), (Y, -BIG)), (((0, 0), 1), ((0, 1), 1)), (((0, 9), 1), ((0, 10), 1)),
    (((0, 10), 1), ((1, 0), 1)), (((2, 0), 1), ((10, 0), 1)), LONG)
NOT_CONTENTS = (
    [(X, 0)], [], {X: 0}, {}, None, 0, "", X, (X, 0), (X,), ((X,),), ((X, 0, 0),), ((X, True),), ((X, False),),
    ((X, "0"),), ((X, None),), ((X, (0,)),), ((X, 1.0),), ([X, 0],), (([0, 0], 0),), ((0, X),), (((0, -1), 0),),
    (((True, 0), 0),), ((X, 0), (X, 0)), ((X, 0), (X, 1)), ((X, 1), (X, 0)), ((Y, 0), (X, 0)),
    (((0, 1), 0), ((0, 0), 0)), (((10, 0), 1), ((2, 0), 1)), ((X, 0), None), ((X, 0), ()), ((X, 0), (Y, [])),
    LONG[::-1], LONG + LONG[-1:], LONG[:-1] + (((0, 0), 0),), LONG[1:] + LONG[:1], LONG + ((None, 0),))
BLOCK = tuple(((3, place), -place) for place in range(5000))
CHANGES = (
    ("a", ((X, 1),)), ("abcdefgh", ((X, BIG),)), ("z", (((BIG, BIG), -BIG),)), ("k", (((1, 0), 0), ((1, 7), 0))),
    ("k", BLOCK))
NOT_CHANGES = (
    ("a", ()), ("a",), ("a", ((X, 1),), ()), (((X, 1),), "a"), ["a", ((X, 1),)], ("a", [(X, 1)]), ("a", {X: 1}),
    ("a", (X, 1)), ("a", X), ("a", None), ("a", ((X, 1), (Y, 1))), ("a", (((0, 5), 1), ((1, 0), 1))),
    ("a", ((X, 1), (X, 1))), ("a", (((0, 1), 1), ((0, 0), 1))), ("a", ((X, True),)), ("a", (((0, -1), 1),)),
    ("", ((X, 1),)), ("A", ((X, 1),)), ("abcdefghi", ((X, 1),)), (None, ((X, 1),)), (1, ((X, 1),)),
    (("a",), ((X, 1),)), {"a": ((X, 1),)}, "a", (), None, 0, ("a", BLOCK[::-1]), ("a", BLOCK + (((4, 0), 0),)),
    ("a", (((2, 0), 0),) + BLOCK), ("a", "b"), ("a", ""), ("a", (("a", 1),)))


class TestForms(unittest.TestCase):

    def assert_told(self, question, things, expected):
        for thing in things:
            kept = copy.deepcopy(thing)
            with self.subTest(thing=repr(thing)[:80]):
                self.assertIs(question(thing), expected)
                self.assertIs(question(thing=thing), expected)
                self.assertEqual(thing, kept)

    def test_cells(self):
        self.assert_told(is_cell, CELLS, True)
        self.assert_told(is_cell, NOT_CELLS, False)

    def test_names(self):
        self.assert_told(is_name, NAMES, True)
        self.assert_told(is_name, NOT_NAMES, False)

    def test_every_sign_alone_and_behind_a_letter(self):
        for code in list(range(32, 127)) + [10]:
            self.assertIs(is_name(chr(code)), 97 <= code <= 122)
            self.assertIs(is_name("a" + chr(code)), 97 <= code <= 122)

    def test_contents(self):
        self.assert_told(is_content, CONTENTS, True)
        self.assert_told(is_content, NOT_CONTENTS, False)

    def test_changes(self):
        self.assert_told(is_change, CHANGES, True)
        self.assert_told(is_change, NOT_CHANGES, False)

    def test_each_kind_is_none_of_the_others(self):
        self.assert_told(is_cell, NAMES + CONTENTS + CHANGES, False)
        self.assert_told(is_name, CELLS + CONTENTS + CHANGES, False)
        self.assert_told(is_content, CELLS + NAMES + CHANGES, False)
        self.assert_told(is_change, CELLS + NAMES + CONTENTS, False)

    def test_any_value_is_answered(self):
        for question in (is_cell, is_content, is_name, is_change):
            for thing in ANY + NOT_CELLS + NOT_NAMES + NOT_CONTENTS + NOT_CHANGES:
                self.assertIn(question(thing), (True, False))
                self.assertIs(question([thing]), False)

    def test_the_example(self):
        told = [is_change(("a", ((X, 1), (Y, 2)))), is_change(("a", ((X, 1),))), name_of(27)]
        self.assertEqual(told, [False, True, "ab"])


class TestNumbers(unittest.TestCase):

    def test_where_the_names_become_longer(self):
        told = {
            0: "a", 1: "b", 24: "y", 25: "z", 26: "aa", 27: "ab", 51: "az", 52: "ba", 701: "zz", 702: "aaa",
            703: "aab", 727: "aaz", 728: "aba", 9999: "ntp", 10000: "ntq"}
        for number, name in told.items():
            self.assertEqual(name_of(number), name)
            self.assertEqual(number_of(name), number)
            self.assertEqual(name_of(number=number), name)
            self.assertEqual(number_of(name=name), number)

    def test_each_leads_back_to_the_other(self):
        names = [name_of(number) for number in range(10001)]
        self.assertEqual([number_of(name) for name in names], list(range(10001)))
        self.assertTrue(all(is_name(name) for name in names))
        self.assertEqual(names, sorted(names, key=lambda name: (len(name), name)))
