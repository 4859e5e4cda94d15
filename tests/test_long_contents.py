"""Point 4 asked of long values: the right answer at any place of them, and soon."""

import copy
import time
import unittest

from heldparts.forms import is_cell, is_change, is_content, is_name
from tests.samples import BIG

COUNT = 3000
ROW = tuple(((1, place), place) for place in range(COUNT))
BLOCKS = tuple(((block, place), -place) for block in range(60) for place in range(50))
PLACES = (0, 1, 9, COUNT // 2, COUNT - 2, COUNT - 1)


def with_part(content, at, part):
    """A content with another part at an index."""
    return content[:at] + (part,) + content[at + 1:]


def exchanged(content, at):
    """A content with a part and the next one exchanged."""
    return content[:at] + (content[at + 1], content[at]) + content[at + 2:]


def wrong_parts(part):
    """What a part can be that is no cell with a value."""
    cell, value = part
    block, place = cell
    cells = ((-1, place), (block, -1), (True, place), (False, place), (block, True), (block, False), (None, place),
             (block, "0"), ("1", place), (block, (place,)), ([block], place), (block,), (block, place, 0), (), [],
             [block, place], {block: place}, block, None, "ab", (block, [place]), ({}, place))
    values = (True, False, None, "0", (value,), [value], {})
    parts = (None, True, 0, "ab", (), [], {}, (cell,), (cell, value, 0), [cell, value], {cell: value}, (value, cell))
    return parts + tuple((other, value) for other in cells) + tuple((cell, other) for other in values)


def plain_is_content(thing):
    """Point 4 as it is said, with a question for each part."""
    def is_integer(part):
        return isinstance(part, int) and not isinstance(part, bool)

    def is_pair(part):
        return isinstance(part, tuple) and len(part) == 2

    for part in thing:
        if not is_pair(part) or not is_pair(part[0]) or not is_integer(part[1]):
            return False
        if not all(is_integer(number) and number >= 0 for number in part[0]):
            return False
    return all(thing[at][0] < thing[at + 1][0] for at in range(len(thing) - 1))


class TestAnswers(unittest.TestCase):

    def assert_told(self, thing, content, change):
        kept = copy.copy(thing)
        self.assertIs(is_content(thing), content, repr(thing)[:60])
        self.assertIs(is_change(("a", thing)), change, repr(thing)[:60])
        self.assertIs(is_cell(thing), False)
        self.assertIs(is_name(thing), False)
        self.assertEqual(thing, kept)

    def test_right_ones(self):
        self.assert_told(ROW, True, True)
        self.assert_told(BLOCKS, True, False)
        self.assert_told(tuple(((1, BIG * place), -BIG) for place in range(COUNT)), True, True)
        self.assert_told(ROW[:2], True, True)
        self.assert_told(ROW + (((2, 0), 0),), True, False)
        self.assert_told((((0, COUNT), 0),) + ROW, True, False)

    def test_one_part_is_another(self):
        for content in (ROW, BLOCKS):
            for at in PLACES:
                for part in wrong_parts(content[at]):
                    self.assert_told(with_part(content, at, part), False, False)

    def test_numbers_that_true_and_false_are_equal_to(self):
        for content in ((((0, 0), 0), ((0, 1), 1), ((1, 0), 0), ((1, 1), 1)), (((0, 1), 1),), (((1, 0), 1), ((1, 1), 0))):
            self.assert_told(content, True, len({cell[0] for cell, _ in content}) == 1)
            for at, (cell, value) in enumerate(content):
                block, place = cell
                others = [((block, place), bool(value)), ((bool(block), place), value), ((block, bool(place)), value)]
                for part in others:
                    self.assert_told(with_part(content, at, part), False, False)

    def test_two_are_exchanged(self):
        for content in (ROW, BLOCKS):
            for at in (0, 9, 49, 50, COUNT // 2, COUNT - 3, COUNT - 2):
                self.assert_told(exchanged(content, at), False, False)

    def test_a_cell_twice(self):
        for content in (ROW, BLOCKS):
            for at in PLACES:
                self.assert_told(content[:at + 1] + content[at:], False, False)
                again = (content[at][0], content[at][1] + 1)
                self.assert_told(content[:at + 1] + (again,) + content[at + 1:], False, False)

    def test_a_list_in_the_place_of_the_tuple(self):
        for content in (ROW, BLOCKS):
            self.assert_told(list(content), False, False)
            self.assert_told(dict(content), False, False)
            self.assertIs(is_change(["a", content]), False)

    def test_a_negative_block_or_place_at_the_start(self):
        for cell in ((-1, 0), (-1, -1), (-2, 0), (0, -1), (-1, 5)):
            self.assert_told(((cell, 0),), False, False)
            self.assert_told(((cell, 0),) + ROW, False, False)

    def test_changes_with_a_part_too_many_or_too_few(self):
        for thing in (("a",), ("a", ROW, 0), (ROW,), (ROW, "a"), ("", ROW), ("A", ROW), (None, ROW), (ROW, ROW)):
            self.assertIs(is_change(thing), False)


class TestTimes(unittest.TestCase):

    def test_two_hundred_calls(self):
        inputs = [ROW, BLOCKS]
        for content in (ROW, BLOCKS):
            inputs += [exchanged(content, 9), exchanged(content, COUNT - 2)]
        for content in inputs:
            for question, thing in ((is_content, content), (is_change, ("a", content))):
                start = time.perf_counter()
                for _ in range(200):
                    question(thing)
                # It takes a tenth of a second on an ordinary machine.
                self.assertLess(time.perf_counter() - start, 2)

    def best_time(self, question, thing):
        times = []
        for _ in range(20):
            start = time.perf_counter()
            question(thing)
            times.append(time.perf_counter() - start)
        return min(times)

    def test_faster_than_a_question_for_each_part(self):
        for content in (ROW, BLOCKS):
            self.assertIs(plain_is_content(content), True)
            plain = self.best_time(plain_is_content, content)
            self.assertLess(2 * self.best_time(is_content, content), plain)
            self.assertLess(2 * self.best_time(is_change, ("a", content)), plain)

    def test_an_early_fault_ends_it(self):
        for content in (ROW, BLOCKS):
            whole = self.best_time(is_content, content)
            for fault in (exchanged(content, 9), with_part(content, 9, None), with_part(content, 9, ((True, 9), 9))):
                self.assertLess(10 * self.best_time(is_content, fault), whole)
