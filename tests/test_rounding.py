"""Rounding: neighbours, the eight ways, functions as ways, papers."""

import decimal
import unittest
from fractions import Fraction

from figuretexts.numbers import Number
from figuretexts.options import WAYS
from figuretexts.rounding import neighbours, round_paper, rounded
from tests.things import fraction, fractions_between, number

STEPS = [Fraction(1), Fraction(2), Fraction(1, 3), Fraction(5, 2), Fraction(1, 10 ** 12), Fraction(10 ** 12)]
PARTS = fractions_between(-4, 4, (1, 2, 3, 4, 1000))

# In units of a step: to what a number is rounded by each of the ways, in the order of WAYS.
TABLE = {
    "0": (0, 0, 0, 0, 0, 0, 0, 0),
    "3": (3, 3, 3, 3, 3, 3, 3, 3),
    "-3": (-3, -3, -3, -3, -3, -3, -3, -3),
    "0.5": (1, 0, 1, 0, 1, 0, 0, 1),
    "1.5": (2, 1, 2, 1, 2, 1, 2, 1),
    "2.5": (3, 2, 3, 2, 3, 2, 2, 3),
    "-0.5": (-1, 0, 0, -1, -1, 0, 0, -1),
    "-1.5": (-2, -1, -1, -2, -2, -1, -2, -1),
    "-2.5": (-3, -2, -2, -3, -3, -2, -2, -3),
    "0.49": (1, 0, 1, 0, 0, 0, 0, 0),
    "0.51": (1, 0, 1, 0, 1, 1, 1, 1),
    "1.49": (2, 1, 2, 1, 1, 1, 1, 1),
    "1.51": (2, 1, 2, 1, 2, 2, 2, 2),
    "-0.49": (-1, 0, 0, -1, 0, 0, 0, 0),
    "-0.51": (-1, 0, 0, -1, -1, -1, -1, -1),
    "-1.49": (-2, -1, -1, -2, -1, -1, -1, -1),
    "-1.51": (-2, -1, -1, -2, -2, -2, -2, -2),
}

DECIMAL_WAYS = {
    "up": decimal.ROUND_UP, "down": decimal.ROUND_DOWN, "high": decimal.ROUND_CEILING, "low": decimal.ROUND_FLOOR,
    "half up": decimal.ROUND_HALF_UP, "half down": decimal.ROUND_HALF_DOWN, "half even": decimal.ROUND_HALF_EVEN,
}


class Neighbours(unittest.TestCase):
    def test_between_them_a_number_stands(self):
        for step in STEPS:
            for part in PARTS:
                low, high = neighbours(number(part * step), number(step))
                self.assertEqual(fraction(low), part.__floor__() * step)
                self.assertEqual(fraction(high), part.__ceil__() * step)

    def test_told_is_a_tuple_of_two_numbers(self):
        for told in (neighbours(Number(7, 2), Number(1)), neighbours(Number(4), Number(2))):
            self.assertIsInstance(told, tuple)
            self.assertEqual(len(told), 2)
            self.assertTrue(all(isinstance(one, Number) for one in told))

    def test_a_multiple_stands_twice(self):
        one = Number(-6)
        low, high = neighbours(one, Number(3, 2))
        self.assertEqual((low, high), (Number(-6), Number(-6)))
        self.assertTrue(low is not high and low is not one and high is not one)


class Ways(unittest.TestCase):
    def test_the_table(self):
        for step in STEPS:
            for text, told in TABLE.items():
                for way, taken in zip(WAYS, told):
                    exact = Fraction(text) * step
                    self.assertEqual(fraction(rounded(number(exact), number(step), way=way)), taken * step, (text, way))

    def test_held_against_decimals(self):
        for count in range(-4000, 4001, 25):
            exact = decimal.Decimal(count) / 1000
            for way, told in DECIMAL_WAYS.items():
                taken = int(exact.quantize(decimal.Decimal(1), rounding=told))
                self.assertEqual(rounded(Number(count, 1000), Number(1), way=way), Number(taken), (count, way))

    def test_the_nearer_one_at_the_smallest_distances_from_a_half(self):
        little = Fraction(1, 10 ** 40)
        for half in (Fraction(2 * count + 1, 2) for count in range(-4, 5)):
            for way in WAYS[4:]:
                self.assertEqual(fraction(rounded(number(half - little), Number(1), way=way)), half - Fraction(1, 2))
                self.assertEqual(fraction(rounded(number(half + little), Number(1), way=way)), half + Fraction(1, 2))

    def test_the_way_left_out_is_half_even(self):
        for part in PARTS:
            told = rounded(number(part), Number(1))
            self.assertEqual(told, rounded(number(part), Number(1), way="half even"))
            self.assertEqual(fraction(told), round(part))

    def test_the_way_is_handed_in_by_name_only(self):
        with self.assertRaises(TypeError):
            rounded(Number(1), Number(1), "up")
        with self.assertRaises(TypeError):
            round_paper(Number(1), Number(1), "up")

    def test_great_numbers(self):
        great = 10 ** 4000
        self.assertEqual(rounded(Number(2 * great + 1, 2), Number(1)), Number(great))
        self.assertEqual(rounded(Number(2 * great + 1, 2), Number(1), way="half odd"), Number(great + 1))

    def test_nothing_that_is_handed_in_is_changed(self):
        for way in WAYS:
            one, step = Number(-7, 2), Number(2, 3)
            first = rounded(one, step, way=way)
            self.assertEqual((str(one), str(step)), ("-7/2", "2/3"))
            self.assertEqual(first, rounded(one, step, way=way))
            self.assertIsNot(first, rounded(one, step, way=way))
        one = Number(4)
        self.assertIsNot(rounded(one, Number(2)), one)


class Functions(unittest.TestCase):
    def asked(self, one, step, told):
        heard = []

        def way(count, part):
            heard.append((count, part))
            return told

        return rounded(one, step, way=way), heard

    def test_of_what_it_is_asked_and_how_often(self):
        for step in STEPS:
            for part in PARTS:
                for told in (True, False):
                    _, heard = self.asked(number(part * step), number(step), told)
                    low = part.__floor__()
                    if part == low:
                        self.assertEqual(heard, [])
                    else:
                        self.assertEqual(heard, [(low, number(part - low))])
                        self.assertIs(heard[0][0].__class__, int)
                        self.assertIsInstance(heard[0][1], Number)

    def test_true_itself_is_the_greater_neighbour(self):
        for text, greater in (("1/3", 1), ("-1/3", 0), ("-7/2", -3), ("5/2", 3)):
            told, _ = self.asked(number(Fraction(text)), Number(1), True)
            self.assertEqual(told, Number(greater))

    def test_anything_else_is_the_lesser_neighbour(self):
        for answer in (False, 1, 0, 2, None, "", "True", "up", (), (True,), [True], {}, Number(1), 10 ** 20):
            for text, lesser in (("1/3", 0), ("-1/3", -1), ("-7/2", -4), ("5/2", 2)):
                told, heard = self.asked(number(Fraction(text)), Number(1), answer)
                self.assertEqual(told, Number(lesser))
                self.assertEqual(len(heard), 1)

    def test_a_multiple_stays(self):
        told, heard = self.asked(Number(-9), Number(3), True)
        self.assertEqual((told, heard), (Number(-9), []))

    def test_a_function_that_tells_as_half_even_does(self):
        half = Number(1, 2)

        def way(count, part):
            return half.below(part) or (part == half and count % 2 == 1)

        for part in PARTS:
            self.assertEqual(rounded(number(part), Number(1), way=way), rounded(number(part), Number(1)))

    def test_a_function_that_changes_what_it_is_told_changes_nothing_else(self):
        def way(count, part):
            part.top = 0
            return count == 1

        self.assertEqual(rounded(Number(3, 2), Number(1), way=way), Number(2))
        self.assertEqual(rounded(Number(5, 2), Number(1), way=way), Number(2))


class Papers(unittest.TestCase):
    def test_the_paper_tells_both_neighbours_and_the_one_taken(self):
        for step in STEPS:
            for text, told in TABLE.items():
                for way, taken in zip(WAYS, told):
                    exact = Fraction(text)
                    paper = round_paper(number(exact * step), number(step), way=way)
                    self.assertEqual(paper, (exact.__floor__(), exact.__ceil__(), taken), (text, way))

    def test_a_paper_is_a_tuple_of_whole_numbers(self):
        for one in (Number(0), Number(1), Number(1, 2), Number(-4, 3)):
            for way in WAYS:
                paper = round_paper(one, Number(1), way=way)
                self.assertIsInstance(paper, tuple)
                self.assertEqual([part.__class__ for part in paper], [int, int, int])

    def test_the_way_left_out_is_half_even(self):
        for part in PARTS:
            paper = round_paper(number(part), Number(1))
            self.assertEqual(paper, (part.__floor__(), part.__ceil__(), round(part)))
