"""Rounding to so many figures."""

import unittest
from fractions import Fraction

from figuretexts.figures import to_figures
from figuretexts.numbers import Number
from figuretexts.options import WAYS
from tests.things import fraction, fractions_between, number

DIRECTED = {
    "up": lambda part: part.__ceil__() if part > 0 else part.__floor__(),
    "down": lambda part: part.__floor__() if part > 0 else part.__ceil__(),
    "high": lambda part: part.__ceil__(),
    "low": lambda part: part.__floor__(),
    "half even": round,
}


def step_of(exact, figures):
    """10 ** (power of exact, less figures, and 1), found by going through the powers."""
    power = -100
    while Fraction(10) ** (power + 1) <= abs(exact):
        power += 1
    return Fraction(10) ** (power - figures + 1)


class ToFigures(unittest.TestCase):
    def test_known_ones(self):
        for text, figures, told in (
            ("1234", 2, "1200"), ("1234", 1, "1000"), ("1234", 3, "1230"), ("1234", 4, "1234"), ("1234", 9, "1234"),
            ("999", 2, "1000"), ("-999", 2, "-1000"), ("999", 1, "1000"), ("999", 3, "999"), ("995", 2, "1000"),
            ("985", 2, "980"), ("-1250", 2, "-1200"), ("1/3", 2, "33/100"), ("2/3", 1, "7/10"), ("1/800", 1, "1/1000"),
            ("99/1000", 1, "1/10"), ("-99/1000", 2, "-99/1000"), ("9999/10000", 3, "1"), ("0", 1, "0"), ("0", 100, "0"),
            ("100", 1, "100"), ("150", 1, "200"), ("250", 1, "200"), ("1", 100, "1"),
        ):
            self.assertEqual(fraction(to_figures(number(Fraction(text)), figures)), Fraction(told), (text, figures))

    def test_steps_of_a_hundred(self):
        for way, told in zip(WAYS, (1300, 1200, 1300, 1200, 1200, 1200, 1200, 1200)):
            self.assertEqual(to_figures(Number(1234), 2, way=way), Number(told))
        for way, told in zip(WAYS, (-1300, -1200, -1200, -1300, -1300, -1200, -1200, -1300)):
            self.assertEqual(to_figures(Number(-1250), 2, way=way), Number(told))

    def test_held_against_fractions(self):
        for exact in fractions_between(-12, 12, (1, 3, 8, 37)):
            if exact == 0:
                continue
            for figures in (1, 2, 3):
                step = step_of(exact, figures)
                for way, rule in DIRECTED.items():
                    told = fraction(to_figures(number(exact), figures, way=way))
                    self.assertEqual(told, rule(exact / step) * step, (exact, figures, way))

    def test_a_hundred_figures(self):
        third = to_figures(Number(1, 3), 100)
        self.assertEqual(fraction(third), Fraction(int("3" * 100), 10 ** 100))
        self.assertEqual(to_figures(Number(2, 3), 100, way="down").top, int("6" * 100) // 2)

    def test_a_function_as_a_way(self):
        heard = []

        def way(count, part):
            heard.append((count, part))
            return True

        self.assertEqual(to_figures(Number(1234), 2, way=way), Number(1300))
        self.assertEqual(heard, [(12, Number(34, 100))])
        self.assertEqual(to_figures(Number(-1234), 2, way=way), Number(-1200))
        self.assertEqual(heard[1:], [(-13, Number(66, 100))])
        self.assertEqual(to_figures(Number(0), 2, way=way), Number(0))
        self.assertEqual(to_figures(Number(1200), 2, way=way), Number(1200))
        self.assertEqual(len(heard), 2)
        self.assertEqual(to_figures(Number(1234), 2, way=lambda count, part: 1), Number(1200))

    def test_the_way_is_handed_in_by_name_only(self):
        with self.assertRaises(TypeError):
            to_figures(Number(1), 1, "up")

    def test_what_is_told_is_an_object_of_its_own(self):
        for one in (Number(0), Number(7), Number(-1, 2)):
            told = to_figures(one, 3)
            self.assertEqual(told, one)
            self.assertIsNot(told, one)
            self.assertIsNot(told, to_figures(one, 3))
