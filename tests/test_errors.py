"""Tests of hushsteps.errors: point [4] of the document, and [2] as far as it speaks of errors."""

import unittest

from hushsteps import errors
from hushsteps.errors import (
    HushError, InvalidCommand, InvalidEvent, InvalidHouse, InvalidNoises, InvalidSleeper, InvalidText, InvalidWalk,
    Refused,
)
from hushsteps.houses import House

WITH_WORD = (InvalidHouse, InvalidSleeper, InvalidWalk)
WITH_AT = (InvalidEvent, InvalidText, InvalidNoises, Refused)
ALL = WITH_WORD + WITH_AT + (InvalidCommand,)


def things():
    """Things of many kinds, made anew each time."""
    return ["rooms", "", 0, -3, 7, True, None, [1, [2]], (1, "a"), {"k": 1}, object(), House(1, []), ValueError("x")]


class Families(unittest.TestCase):
    def test_base_class(self):
        self.assertEqual(HushError.__bases__, (ValueError,))

    def test_each_derives_directly_from_the_base_class_alone(self):
        for kind in ALL:
            with self.subTest(kind=kind.__name__):
                self.assertEqual(kind.__bases__, (HushError,))

    def test_none_derives_from_another_one(self):
        for kind in ALL:
            for other in ALL:
                if kind is not other:
                    self.assertFalse(issubclass(kind, other), (kind, other))

    def test_there_are_eight(self):
        self.assertEqual(len(ALL), 8)
        self.assertEqual(set(HushError.__subclasses__()), set(ALL))

    def test_defined_in_this_module(self):
        for kind in ALL + (HushError,):
            self.assertEqual(kind.__module__, "hushsteps.errors")
            self.assertIs(getattr(errors, kind.__name__), kind)

    def test_caught_as_base_class_and_as_value_error(self):
        for kind in WITH_WORD + WITH_AT:
            with self.assertRaises(HushError):
                raise kind(1)
            with self.assertRaises(ValueError):
                raise kind(1)
        with self.assertRaises(HushError):
            raise InvalidCommand()
        with self.assertRaises(ValueError):
            raise HushError()


class Arguments(unittest.TestCase):
    def test_word_is_kept_by_place(self):
        for kind in WITH_WORD:
            for thing in things():
                self.assertIs(kind(thing).word, thing)

    def test_word_is_kept_by_name(self):
        for kind in WITH_WORD:
            for thing in things():
                self.assertIs(kind(word=thing).word, thing)

    def test_at_is_kept_by_place(self):
        for kind in WITH_AT:
            for thing in things():
                self.assertIs(kind(thing).at, thing)

    def test_at_is_kept_by_name(self):
        for kind in WITH_AT:
            for thing in things():
                self.assertIs(kind(at=thing).at, thing)

    def test_a_list_that_is_changed_afterwards(self):
        for kind in WITH_WORD:
            thing = [1, 2]
            error = kind(thing)
            thing.append(3)
            self.assertEqual(error.word, [1, 2, 3])
            self.assertIs(error.word, thing)
        for kind in WITH_AT:
            thing = [1, 2]
            error = kind(at=thing)
            thing.clear()
            self.assertEqual(error.at, [])
            self.assertIs(error.at, thing)

    def test_the_argument_is_not_changed(self):
        for kind in WITH_WORD + WITH_AT:
            thing = [1, [2], "x"]
            kind(thing)
            self.assertEqual(thing, [1, [2], "x"])

    def test_kept_when_raised(self):
        for kind in WITH_AT:
            thing = [5]
            with self.assertRaises(kind) as caught:
                raise kind(thing)
            self.assertIs(caught.exception.at, thing)

    def test_the_argument_is_wanted(self):
        for kind in WITH_WORD + WITH_AT:
            with self.assertRaises(TypeError):
                kind()

    def test_command_takes_none(self):
        self.assertIsInstance(InvalidCommand(), HushError)

    def test_not_iterable(self):
        for kind in WITH_WORD + WITH_AT:
            with self.assertRaises(TypeError):
                iter(kind("ab"))


if __name__ == "__main__":
    unittest.main()
