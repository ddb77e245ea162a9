"""Promises 4 and 36: the errors, their bases and what they hold."""

import unittest

from surelevels import errors
from surelevels.errors import LevelError

WITH_ONE = [
    ("BadPart", "part"), ("BadText", "line"), ("BadLevel", "index"), ("BadFact", "index"), ("BadPlace", "index"),
    ("BadPoint", "index"), ("BadMoment", "moment"), ("BadLine", "line"), ("UnknownLevel", "name"),
    ("BadHeight", "height"),
]
WITH_NONE = ["BadFrame", "Unfit", "HasHistory"]


class Families(unittest.TestCase):
    def test_base(self):
        self.assertEqual(LevelError.__bases__, (ValueError,))
        self.assertEqual(vars(LevelError()), {})

    def test_each_is_a_direct_subclass(self):
        for word in [word for word, parameter in WITH_ONE] + WITH_NONE:
            with self.subTest(word):
                self.assertEqual(getattr(errors, word).__bases__, (LevelError,))

    def test_there_are_no_others(self):
        found = sorted([each.__name__ for each in LevelError.__subclasses__() if each.__module__ == errors.__name__])
        self.assertEqual(found, sorted([word for word, parameter in WITH_ONE] + WITH_NONE))

    def test_each_is_defined_in_its_file(self):
        for word in [word for word, parameter in WITH_ONE] + WITH_NONE + ["LevelError"]:
            self.assertEqual(getattr(errors, word).__module__, "surelevels.errors")


class Parameters(unittest.TestCase):
    def held(self):
        return [None, True, 0, 10 ** 60, -3, "text", "", [1, [2]], (1, 2), {"a": []}, errors.Unfit(), object()]

    def test_by_place_and_by_name(self):
        for word, parameter in WITH_ONE:
            for thing in self.held():
                with self.subTest(word=word, thing=thing):
                    made = getattr(errors, word)
                    self.assertIs(getattr(made(thing), parameter), thing)
                    self.assertIs(getattr(made(**{parameter: thing}), parameter), thing)
                    self.assertEqual(list(vars(made(thing))), [parameter])

    def test_lists_that_are_changed_later(self):
        for word, parameter in WITH_ONE:
            with self.subTest(word):
                thing = [1, [2]]
                error = getattr(errors, word)(thing)
                thing.append(3)
                thing[1].append(4)
                self.assertIs(getattr(error, parameter), thing)
                self.assertEqual(getattr(error, parameter), [1, [2, 4], 3])

    def test_wrong_numbers_of_arguments(self):
        for word in ["LevelError"] + WITH_NONE:
            with self.subTest(word), self.assertRaises(TypeError):
                getattr(errors, word)(1)
        for word, parameter in WITH_ONE:
            with self.subTest(word), self.assertRaises(TypeError):
                getattr(errors, word)()
            with self.subTest(word), self.assertRaises(TypeError):
                getattr(errors, word)(1, 2)

    def test_caught_as_base(self):
        for word, parameter in WITH_ONE:
            for base in (LevelError, ValueError):
                with self.subTest(word), self.assertRaises(base):
                    raise getattr(errors, word)("x")
        for word in WITH_NONE:
            for base in (LevelError, ValueError):
                with self.subTest(word), self.assertRaises(base):
                    raise getattr(errors, word)()


if __name__ == "__main__":
    unittest.main()
