"""Rounding twice."""

import unittest
from fractions import Fraction

from figuretexts.numbers import Number
from figuretexts.options import WAYS
from figuretexts.rounding import rounded
from figuretexts.twice import parts_twice
from tests.things import number

FINES = [Fraction(1), Fraction(1, 100), Fraction(3, 7), Fraction(10 ** 6), Fraction(1, 10 ** 12)]


def parts(one, way, fine, coarse):
    """Whether the number comes elsewhere when it is rounded twice."""
    return rounded(rounded(one, fine, way=way), coarse, way=way) != rounded(one, coarse, way=way)


class Twice(unittest.TestCase):
    def test_the_number_told_comes_elsewhere_and_none_where_no_number_does(self):
        for way in WAYS:
            for times in list(range(2, 13)) + [25, 27]:
                # All that differs in rounding differs at one of these: each eighth of a fine step, over two periods.
                tried = [Number(eighth, 8) for eighth in range(-16 * times, 16 * times + 1)]
                some = any(parts(one, way, Number(1), Number(times)) for one in tried)
                for fine in FINES:
                    told = parts_twice(way, number(fine), number(fine * times))
                    if some:
                        self.assertIsInstance(told, Number, (way, times))
                        self.assertTrue(parts(told, way, number(fine), number(fine * times)), (way, times))
                    else:
                        self.assertIsNone(told, (way, times))

    def test_for_which_ways_and_steps_some_number_does(self):
        table = {
            "up": (), "down": (), "high": (), "low": (), "half up": (2, 4, 6, 8, 10), "half down": (2, 4, 6, 8, 10),
            "half even": (2, 3, 4, 6, 7, 8, 10), "half odd": (2, 3, 4, 6, 7, 8, 10),
        }
        for way, some in table.items():
            for times in range(2, 11):
                told = parts_twice(way, Number(1, 10), Number(times, 10))
                self.assertEqual(told is not None, times in some, (way, times))

    def test_great_steps(self):
        fine, coarse = Number(1, 10 ** 12), Number(10 ** 12)
        for way in WAYS[:4]:
            self.assertIsNone(parts_twice(way, fine, coarse))
        for way in WAYS[4:]:
            self.assertTrue(parts(parts_twice(way, fine, coarse), way, fine, coarse))

    def test_nothing_that_is_handed_in_is_changed_and_the_same_is_told(self):
        for way in WAYS:
            fine, coarse = Number(1, 4), Number(3, 4)
            first = parts_twice(way, fine, coarse)
            self.assertEqual(first, parts_twice(way, fine, coarse))
            self.assertEqual((str(fine), str(coarse)), ("1/4", "3/4"))
