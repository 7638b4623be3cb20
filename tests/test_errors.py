"""The refusals: where their classes stand, and their values."""

import unittest

from figurebook import errors
from figurebook.errors import (
    FigureError, Hollow, NoBook, NoClass, NoFit, NoLine, NoNames, NoStep, NoSuch, NoText, Round, TooMany, Twice,
)

TWELVE = (NoText, Twice, NoClass, Hollow, Round, NoFit, TooMany, NoSuch, NoNames, NoStep, NoLine, NoBook)


class Standing(unittest.TestCase):

    def test_base_stands_under_value_error(self):
        self.assertTrue(issubclass(FigureError, ValueError))

    def test_each_stands_straight_under_the_base(self):
        for kind in TWELVE:
            with self.subTest(kind=kind.__name__):
                self.assertEqual(kind.__bases__, (FigureError,))

    def test_none_stands_under_another(self):
        self.assertEqual(len(set(TWELVE)), 12)
        for one in TWELVE:
            for other in TWELVE:
                if one is not other:
                    self.assertFalse(issubclass(one, other), (one, other))

    def test_no_other_error_is_there(self):
        there = {thing for thing in vars(errors).values() if isinstance(thing, type)}
        self.assertEqual(there, {FigureError, *TWELVE})


class Values(unittest.TestCase):

    def test_values_are_there_under_their_names(self):
        for made, word, value in (
            (NoText(3), "at", 3), (Twice("tree"), "name", "tree"), (NoClass("leaf"), "name", "leaf"),
            (Hollow("twig"), "name", "twig"), (NoFit((0, 2)), "path", (0, 2)), (NoFit(()), "path", ()),
            (NoStep(0), "at", 0), (NoLine("what now"), "line", "what now"), (NoLine(""), "line", ""),
        ):
            with self.subTest(kind=type(made).__name__):
                self.assertEqual(getattr(made, word), value)
                self.assertIs(type(getattr(made, word)), type(value))

    def test_circle_is_a_list_of_its_own(self):
        names = ["a", "b"]
        made = Round(names)
        names.append("c")
        self.assertIs(type(made.circle), list)
        self.assertEqual(made.circle, ["a", "b"])

    def test_the_others_are_made_and_taken(self):
        for kind in (TooMany, NoSuch, NoNames, NoBook):
            with self.assertRaises(FigureError):
                raise kind()

    def test_each_has_words(self):
        for made in (NoText(3), Twice("a"), NoClass("a"), Hollow("a"), Round(["a"]), NoFit(()), NoStep(1), NoLine("x")):
            self.assertNotEqual(str(made), "")
