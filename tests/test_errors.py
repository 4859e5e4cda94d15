"""Point 2 and heldparts/errors.py: the error classes."""

import unittest

from heldparts import errors
from tests.samples import ANY

# The name of each class that has a parameter, that of its base class, and the parameter.
WITH_PARAMETER = (
    ("NoStore", "HeldError", "word"), ("NoLot", "HeldError", "names"), ("NoEdit", "HeldError", "word"),
    ("NoContext", "HeldError", "word"), ("NoModule", "HeldError", "part"), ("NoWrite", "HeldError", "names"),
    ("NotHeld", "HeldError", "handle"), ("TooMany", "HeldError", "limit"), ("Noticed", "NoEdit", "stranger"),
    ("Ring", "NoStore", "names"),
)
WITHOUT = (("InvalidText", "HeldError"), ("InvalidCommand", "HeldError"), ("NothingDone", "HeldError"))


class TestErrors(unittest.TestCase):

    def test_the_parameter_is_an_attribute_as_it_was_passed(self):
        for name, _, parameter in WITH_PARAMETER:
            made = getattr(errors, name)
            for thing in ANY:
                with self.subTest(name=name):
                    self.assertIs(getattr(made(thing), parameter), thing)
                    self.assertIs(getattr(made(**{parameter: thing}), parameter), thing)

    def test_only_this_parameter_is_taken(self):
        for name, _, parameter in WITH_PARAMETER:
            with self.subTest(name=name):
                self.assertRaises(TypeError, getattr(errors, name))
                self.assertRaises(TypeError, getattr(errors, name), 1, 2)
                self.assertRaises(TypeError, getattr(errors, name), other=1)

    def test_those_without_parameters(self):
        for name, _ in WITHOUT:
            self.assertIsInstance(getattr(errors, name)(), errors.HeldError)

    def test_the_words_of_ring_and_noticed(self):
        for thing in ANY:
            self.assertEqual(errors.Ring(thing).word, "ring")
            self.assertEqual(errors.Ring(names=thing).word, "ring")
            self.assertEqual(errors.Noticed(thing).word, "noticed")
            self.assertEqual(errors.Noticed(stranger=thing).word, "noticed")

    def test_the_base_classes(self):
        self.assertEqual(errors.HeldError.__bases__, (Exception,))
        for name, base, *_ in WITH_PARAMETER + WITHOUT:
            self.assertEqual(getattr(errors, name).__bases__, (getattr(errors, base),))

    def test_what_each_is_an_instance_of_and_what_not(self):
        names = [name for name, *_ in WITH_PARAMETER + WITHOUT]
        above = {"Ring": {"Ring", "NoStore"}, "Noticed": {"Noticed", "NoEdit"}}
        for name in names:
            error = getattr(errors, name)() if (name, "HeldError") in WITHOUT else getattr(errors, name)("word")
            self.assertIsInstance(error, errors.HeldError)
            self.assertNotIsInstance(error, (ValueError, LookupError, TypeError, ArithmeticError, RuntimeError))
            told = {other for other in names if isinstance(error, getattr(errors, other))}
            self.assertEqual(told, above.get(name, {name}))

    def test_they_can_be_raised_and_caught(self):
        for name, *_ in WITH_PARAMETER:
            with self.assertRaises(errors.HeldError) as caught:
                raise getattr(errors, name)(("a", "b"))
            self.assertIs(caught.exception.__class__, getattr(errors, name))
        with self.assertRaises(errors.NoStore):
            raise errors.Ring(("a",))
        with self.assertRaises(errors.NoEdit):
            raise errors.Noticed(("memory",))
