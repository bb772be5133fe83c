"""The refusals: what each is under, and its fields."""

import unittest

from figuretexts.errors import (
    FigureError, NoBottom, NoCustom, NoFit, NoName, NoRead, NoText, NoWish, Unsorted,
)
from tests.things import things

OF_A_THING = (NoCustom, NoWish, NoFit, NoRead, NoName)
OWN = (NoText, Unsorted, NoBottom, FigureError) + OF_A_THING


class Errors(unittest.TestCase):
    def test_each_stands_right_under_the_class_that_is_told(self):
        self.assertEqual(NoText.__bases__, (ValueError,))
        self.assertEqual(Unsorted.__bases__, (ValueError,))
        self.assertEqual(NoBottom.__bases__, (ArithmeticError,))
        self.assertEqual(FigureError.__bases__, (Exception,))
        for kind in OF_A_THING:
            self.assertEqual(kind.__bases__, (FigureError,), kind)

    def test_none_stands_under_another_one(self):
        for kind in OWN:
            for other in OWN:
                if kind is not other and other is not FigureError:
                    self.assertFalse(issubclass(kind, other), (kind, other))
        for kind in (NoText, Unsorted, NoBottom):
            self.assertFalse(issubclass(kind, FigureError), kind)
        for kind in OF_A_THING + (FigureError, NoBottom):
            self.assertFalse(issubclass(kind, ValueError), kind)
        self.assertFalse(issubclass(NoBottom, ZeroDivisionError))

    def test_each_is_defined_in_its_file(self):
        for kind in OWN:
            self.assertEqual(kind.__module__, "figuretexts.errors")

    def test_each_may_be_made_of_anything_and_keeps_it(self):
        for thing in things():
            self.assertIs(NoText(thing).at, thing)
            self.assertIs(NoBottom(thing).top, thing)
            for kind in OF_A_THING + (FigureError,):
                self.assertIs(kind(thing).thing, thing)
            for other in things():
                told = Unsorted(thing, other)
                self.assertIs(told.low, thing)
                self.assertIs(told.high, other)

    def test_each_is_raised_and_caught_as_what_it_is_under(self):
        with self.assertRaises(ValueError) as caught:
            raise NoText(7)
        self.assertEqual(caught.exception.at, 7)
        with self.assertRaises(ValueError) as caught:
            raise Unsorted(2, 1)
        self.assertEqual((caught.exception.low, caught.exception.high), (2, 1))
        with self.assertRaises(ArithmeticError) as caught:
            raise NoBottom(5)
        self.assertEqual(caught.exception.top, 5)
        for kind in OF_A_THING:
            with self.assertRaises(FigureError) as caught:
                raise kind("thing")
            self.assertEqual(caught.exception.thing, "thing")
