"""The shortest figures that lead back to a kept number."""

import unittest
from fractions import Fraction

from figuretexts.numbers import Number
from figuretexts.rounding import rounded
from figuretexts.shortest import shortest
from tests.apart import rounded_by
from tests.things import fraction, number

HALF_EVEN = "half even"
STEPS = [Fraction(10) ** power for power in range(-12, 13)] + [
    Fraction(top, bottom) for bottom in (3, 7, 8) for top in (1, 2, 5, 13, 100)
] + [Fraction(2, 3 * 10 ** 5), Fraction(3, 2), Fraction(5, 2), Fraction(9, 4), Fraction(1, 2), Fraction(1, 400)]
COUNTS = list(range(-13, 14)) + [10 ** 6 + 1, -123457, 10 ** 30, 10 ** 30 + 7, -(10 ** 30) - 6, 99999, 100001]


def leads_back(exact, kept, step):
    return rounded_by(exact, step, HALF_EVEN) == kept


def shortest_by(kept, step):
    """(count, places) by looking for them, from no places on."""
    places = 0
    while True:
        low = (kept * 10 ** places).__floor__()
        found = [count for count in (low, low + 1) if leads_back(Fraction(count, 10 ** places), kept, step)]
        if found:
            return min(found, key=lambda count: (abs(Fraction(count, 10 ** places) - kept), count)), places
        places += 1


class Shortest(unittest.TestCase):
    def told(self, kept, step, count, places, paper):
        self.assertEqual(shortest(number(Fraction(kept)), number(Fraction(step))), (count, places, paper))

    def test_known_figures(self):
        for kept, step, count, places, paper in (
            ("0", "1", 0, 0, None), ("5", "1", 5, 0, None), ("-5", "1", -5, 0, None), ("300", "100", 300, 0, None),
            ("0", "1/7", 0, 0, None), ("1", "1/7", 1, 0, None), ("1/10", "1/10", 1, 1, (0, 1)),
            ("1/3", "1/3", 3, 1, (0, 1)), ("-1/3", "1/3", -3, 1, (-1, 0)), ("4/3", "1/3", 13, 1, (1, 2)),
            ("123/100", "1/100", 123, 2, (12, 13)), ("-123/100", "1/100", -123, 2, (-13, -12)),
            ("120/100", "1/100", 12, 1, (1, 2)), ("1001/1000", "1/1000", 1001, 3, (100, 101)),
            ("-37/8", "1/8", -46, 1, (-5, -4)), ("99/7", "1/7", 141, 1, (14, 15)),
            ("1/1000000000000", "1/1000000000000", 1, 12, (0, 1)),
        ):
            self.told(kept, step, count, places, paper)

    def test_a_whole_number_has_no_places_and_no_paper(self):
        for step in (1, 2, 3, 25, 100, 999, 10 ** 12):
            for count in COUNTS:
                self.told(count * step, step, count * step, 0, None)
        for kept in (0, 1, -1, 12, 10 ** 30):
            for step in ("1/10", "1/8", "1/3", "1/7", "1/1000000000000"):
                self.told(kept, step, kept, 0, None)

    def test_the_border_leads_back_to_even_counts_only(self):
        # All these are half a step off a whole number.
        self.told("4/3", "2/3", 1, 0, None)
        self.told("-4/3", "2/3", -1, 0, None)
        self.told("8/3", "2/3", 3, 0, None)
        self.told("2/3", "2/3", 7, 1, (0, 1))
        self.told("-2/3", "2/3", -7, 1, (-1, 0))
        self.told("10/3", "2/3", 33, 1, (3, 4))
        # And these half a step off a tenth.
        self.told("4/30", "2/30", 1, 1, (0, 1))
        self.told("-4/30", "2/30", -1, 1, (-1, 0))
        self.told("2/30", "2/30", 7, 2, (0, 1))
        self.told("-10/30", "2/30", -33, 2, (-4, -3))

    def test_of_two_as_near_the_lesser_one(self):
        self.told("3/2", "3/2", 1, 0, None)
        self.told("-3/2", "3/2", -2, 0, None)
        self.told("9/2", "3/2", 4, 0, None)
        self.told("-9/2", "3/2", -5, 0, None)
        self.told("1/4", "1/4", 2, 1, (0, 1))
        self.told("-1/4", "1/4", -3, 1, (-1, 0))
        self.told("3/4", "1/4", 7, 1, (0, 1))
        self.told("1/8", "1/8", 1, 1, (0, 1))
        self.told("13/20", "13/100", 6, 1, (0, 1))

    def test_below_nought_the_same_places(self):
        for step in STEPS:
            for count in range(1, 30):
                above = shortest(number(count * step), number(step))
                below = shortest(number(-count * step), number(step))
                self.assertEqual(above[1], below[1], (count, step))

    def test_held_against_a_search(self):
        for step in STEPS:
            for count in COUNTS:
                kept = count * step
                told = shortest(number(kept), number(step))
                self.assertIs(told.__class__, tuple)
                self.assertEqual(len(told), 3)
                self.assertEqual(told[:2], shortest_by(kept, step), (kept, step))
                self.assertTrue(all(part.__class__ is int for part in told[:2]))

    def test_papers_show_that_no_fewer_places_do(self):
        for step in STEPS:
            for count in COUNTS:
                kept = count * step
                _, places, paper = shortest(number(kept), number(step))
                if places == 0:
                    self.assertIsNone(paper)
                    continue
                self.assertIs(paper.__class__, tuple)
                self.assertEqual(len(paper), 2)
                self.assertTrue(all(part.__class__ is int for part in paper))
                below, above = paper
                self.assertEqual(above, below + 1)
                shifted = kept * Fraction(10) ** (places - 1)
                self.assertTrue(below < shifted < above, (kept, step))
                for part in paper:
                    self.assertFalse(leads_back(part / Fraction(10) ** (places - 1), kept, step), (kept, step))

    def test_what_is_told_leads_back_by_the_program_too(self):
        for step in STEPS:
            for count in COUNTS:
                kept = number(count * step)
                told, places, _ = shortest(kept, number(step))
                self.assertEqual(rounded(Number(told, 10 ** places), number(step), way=HALF_EVEN), kept)

    def test_steps_that_were_told_are_handed_in(self):
        little = Number(1, 10 ** 12)
        for _ in range(4):
            little = little.times(Number(1, 10 ** 12))
        self.assertEqual(shortest(little, little), (1, 60, (0, 1)))
        great = Number(10 ** 12).times(Number(10 ** 30))
        self.assertEqual(shortest(great, great), (10 ** 42, 0, None))
        self.assertEqual(fraction(great), 10 ** 42)

    def test_nothing_that_is_handed_in_is_changed_and_the_same_is_told(self):
        kept, step = Number(-7, 8), Number(1, 8)
        first = shortest(kept, step)
        self.assertEqual(first, shortest(kept, step))
        self.assertEqual((str(kept), str(step)), ("-7/8", "1/8"))
