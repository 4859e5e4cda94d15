"""The examples of the document, for each part of the interface that is there."""

import doctest
import importlib.util
import os
import re
import unittest

DOCUMENT = os.path.join(os.path.dirname(os.path.dirname(os.path.dirname(os.path.abspath(__file__)))), "shared", "DOC.md")


def is_there(source):
    """Whether all modules that an example imports from are there."""
    return all(importlib.util.find_spec(name) for name in re.findall(r"from (heldparts\.\w+) import", source))


def examples(text):
    """The examples of a text: what is executed, and what it gives or raises."""
    blocks = re.findall(r"^```\n(>>>.*?)^```$", text, re.MULTILINE | re.DOTALL)
    return [example for block in blocks for example in doctest.DocTestParser().get_examples(block)]


class TestExamples(unittest.TestCase):

    def assert_raises(self, source, names, expected):
        """That an example raises the error that it tells, with its parameter."""
        word, parameter, value = re.fullmatch(r"raises (\w+)\((\w+)=(.*)\)\n", expected).groups()
        with self.assertRaises(Exception) as caught:
            eval(source, names)
        self.assertEqual(type(caught.exception).__name__, word)
        self.assertEqual(repr(getattr(caught.exception, parameter)), value)

    @unittest.skipUnless(os.path.exists(DOCUMENT), "the document is not there")
    def test_the_document(self):
        with open(DOCUMENT, encoding="utf-8") as file:
            text = file.read()
        names, asked = {}, 0
        for example in examples(text):
            if not is_there(example.source):
                # The examples behind it use what it would import.
                break
            if example.want.startswith("raises "):
                self.assert_raises(example.source, names, example.want)
                asked += 1
            elif example.want:
                self.assertEqual(repr(eval(example.source, names)) + "\n", example.want, example.source)
                asked += 1
            else:
                exec(example.source, names)
        self.assertGreaterEqual(asked, 32)
