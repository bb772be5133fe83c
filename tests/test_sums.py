"""Parts rounded so that they come to their sum."""

import unittest
from fractions import Fraction
from itertools import product
from random import Random

from figuretexts.numbers import Number
from figuretexts.rounding import rounded
from figuretexts.sums import parts_rounded
from tests.apart import rounded_by
from tests.things import fraction, number


def total_by(parts, step):
    """How many steps the rounded sum is."""
    return rounded_by(sum(parts), step, "half even") / step


def best_by(parts, step):
    """The counts, by looking through all choices of neighbours."""
    steps = [part / step for part in parts]
    choices = [sorted({count.__floor__(), count.__ceil__()}) for count in steps]
    best = None
    for counts in product(*choices):
        if sum(counts) == total_by(parts, step):
            off = sum(abs(count - exact) for count, exact in zip(counts, steps))
            # Of choices as near the one with the earlier parts at their greater neighbours.
            rank = (off, [-count for count in counts])
            best = min(best, (rank, counts)) if best else (rank, counts)
    return best[1]


def paper_parts(parts, step, counts, paper):
    """Whether the paper, a Fraction, parts those put to the greater neighbours from the others."""
    for part, count in zip(parts, counts):
        steps = part / step
        beyond = steps - steps.__floor__()
        if beyond and (beyond < paper if count > steps else beyond > paper):
            return False
    return 0 <= paper <= 1


class Sums(unittest.TestCase):
    def told(self, parts, step, counts):
        parts = tuple(Fraction(part) for part in parts)
        step = Fraction(step)
        told = parts_rounded(tuple(number(part) for part in parts), number(step))
        self.assertIs(told.__class__, tuple)
        self.assertEqual(len(told), 2)
        self.assertIs(told[0].__class__, tuple)
        self.assertTrue(all(count.__class__ is int for count in told[0]))
        self.assertEqual(told[0], tuple(counts), (parts, step))
        self.assertIsInstance(told[1], Number)
        self.assertTrue(paper_parts(parts, step, told[0], fraction(told[1])), (parts, step, told))
        self.assertEqual(sum(told[0]), total_by(parts, step))


class Told(Sums):
    def test_one_part_is_rounded_by_half_even(self):
        for top in range(-40, 41):
            for step in (Fraction(1), Fraction(1, 4), Fraction(3, 7), Fraction(5)):
                part = Fraction(top, 8) * step
                self.told([part], step, [total_by([part], step)])
        self.told(["1/2"], 1, [0])
        self.told(["3/2"], 1, [2])
        self.told(["-1/2"], 1, [0])
        self.told(["-3/2"], 1, [-2])

    def test_multiples_stay(self):
        self.told([1, 2, 3], 1, [1, 2, 3])
        self.told([0], 1, [0])
        self.told([0, 0, 0], "1/3", [0, 0, 0])
        self.told([5, "1/2", -5, "1/2", 0], 1, [5, 1, -5, 0, 0])
        self.told([-2, 7, "1/4"], "1/4", [-8, 28, 1])
        self.told([1, "2/3", "2/3", "2/3"], 1, [1, 1, 1, 0])

    def test_known_parts(self):
        self.told(["1/3", "1/3", "1/3"], 1, [1, 0, 0])
        self.told(["100/3", "100/3", "100/3"], 1, [34, 33, 33])
        self.told(["100/3", "100/3", "100/3"], "1/10", [334, 333, 333])
        self.told(["2/3", "2/3", "2/3"], 1, [1, 1, 0])
        self.told(["-1/3", "-1/3", "-1/3"], 1, [0, 0, -1])
        self.told(["1/10", "2/10", "7/10"], 1, [0, 0, 1])
        self.told(["7/10", "1/10", "2/10"], 1, [1, 0, 0])
        self.told(["4/10", "3/10", "3/10"], 1, [1, 0, 0])
        self.told(["3/10", "3/10", "4/10"], 1, [0, 0, 1])
        self.told(["13/10", "24/10", "35/10"], 1, [1, 2, 4])
        self.told(["-13/10", "-24/10", "-35/10"], 1, [-1, -2, -4])

    def test_all_alike_the_earlier_ones_go_up(self):
        for many in range(1, 21):
            for beyond in (Fraction(1, 3), Fraction(2, 3), Fraction(1, 2), Fraction(1, 10), Fraction(9, 10)):
                for low in (0, 4, -5):
                    total = total_by([low + beyond] * many, 1)
                    up = int(total) - low * many
                    self.told([low + beyond] * many, 1, [low + 1] * up + [low] * (many - up))
        self.told(["1/2", "5/2", "-3/2", "7/2", "1/2"], 1, [1, 3, -1, 3, 0])
        self.told(["1/3", "1/2", "1/3", "1/2", "1/3"], 1, [0, 1, 0, 1, 0])
        self.told(["1/4", "1/3", "5/4", "1/3", "5/6"], 1, [0, 1, 1, 0, 1])

    def test_a_sum_at_a_half(self):
        self.told(["1/4", "1/4"], 1, [0, 0])
        self.told(["3/4", "3/4"], 1, [1, 1])
        self.told(["5/4", "5/4"], 1, [1, 1])
        self.told(["-1/4", "-1/4"], 1, [0, 0])
        self.told(["-3/4", "-3/4"], 1, [-1, -1])
        self.told(["1/6", "1/3"], 1, [0, 0])
        self.told(["7/6", "1/3"], 1, [1, 1])
        self.told(["1/4", "1/4", 1], 1, [1, 0, 1])

    def test_parts_above_and_below_nought(self):
        self.told(["1/3", "-1/3"], 1, [0, 0])
        self.told(["1/2", "-1/2"], 1, [1, -1])
        self.told(["-1/2", "1/2"], 1, [0, 0])
        self.told(["-1/3", "1/3"], 1, [0, 0])
        self.told(["-7/3", "8/3", "-1/3"], 1, [-2, 3, -1])
        self.told(["-5/4", "-5/4", "-5/4", "-5/4"], 1, [-1, -1, -1, -2])

    def test_great_and_little(self):
        great, little = 10 ** 30, Fraction(1, 10 ** 12)
        self.told([great, Fraction(1, 3), -great, Fraction(1, 3)], 1, [great, 1, -great, 0])
        self.told([Fraction(great, 3)] * 3, little, [great * 10 ** 12 // 3 + 1] + [great * 10 ** 12 // 3] * 2)
        self.told([Fraction(great, 7)] * 2, 10 ** 12, [great // 7 // 10 ** 12] * 2)
        self.told([Fraction(-great, 3)] * 3, 10 ** 12, [-(10 ** 18) // 3 + 1] * 2 + [-(10 ** 18) // 3])
        self.told([little / 3, little / 3, little * 5], little, [1, 0, 5])
        self.told([1, 2, 3], 10 ** 12, [0, 0, 0])

    def test_held_against_a_search_through_all_choices(self):
        beyonds = [Fraction(text) for text in ("0", "1/2", "1/3", "2/3", "1/10", "9/10", "-1/4", "7/3")]
        for many in (1, 2, 3, 4):
            for parts in product(beyonds, repeat=many):
                told, _ = parts_rounded(tuple(number(part) for part in parts), Number(1))
                self.assertEqual(told, best_by(parts, Fraction(1)), parts)

    def test_held_against_a_search_by_many_steps(self):
        chance = Random(18)
        for _ in range(300):
            step = Fraction(chance.choice((1, 2, 3, 5, 100)), chance.choice((1, 3, 7, 8, 100)))
            parts = []
            for _ in range(chance.randrange(1, 9)):
                parts.append(Fraction(chance.randrange(-300, 300), chance.choice((1, 2, 3, 4, 10, 12))) * step)
                if chance.random() < 0.3:
                    parts.append(parts[-1] + step * chance.randrange(-2, 3))
            self.told(parts, step, best_by(parts, step))

    def test_twenty_parts(self):
        chance = Random(20)
        for _ in range(60):
            step = Fraction(1, 10 ** chance.randrange(4))
            parts = [Fraction(chance.randrange(-10 ** 6, 10 ** 6), chance.choice((3, 7, 90, 997))) for _ in range(20)]
            beyond = [part / step - (part / step).__floor__() for part in parts]
            lows = [(part / step).__floor__() for part in parts]
            up = int(total_by(parts, step)) - sum(lows)
            first = sorted(range(20), key=lambda at: (-beyond[at], at))[:up]
            self.told(parts, step, [low + (at in first) for at, low in enumerate(lows)])


class Whole(Sums):
    def test_each_comes_to_one_of_its_neighbours(self):
        chance = Random(3)
        for _ in range(200):
            step = Number(chance.randrange(1, 9), chance.randrange(1, 9))
            parts = tuple(Number(chance.randrange(-99, 99), chance.randrange(1, 12)) for _ in range(7))
            counts, _ = parts_rounded(parts, step)
            for part, count in zip(parts, counts):
                near = (rounded(part, step, way="low"), rounded(part, step, way="high"))
                self.assertIn(step.times(Number(count)), near)
            total = parts[0]
            for part in parts[1:]:
                total = total.more(part)
            self.assertEqual(step.times(Number(sum(counts))), rounded(total, step))

    def test_nothing_that_is_handed_in_is_changed_and_the_same_is_told(self):
        parts, step = (Number(1, 3), Number(1, 2), Number(-7, 6)), Number(1)
        first = parts_rounded(parts, step)
        self.assertEqual(first, parts_rounded(parts, step))
        self.assertEqual((str(step), [str(part) for part in parts]), ("1", ["1/3", "1/2", "-7/6"]))
        # The paper shares nothing with the parts.
        parts = (Number(1, 2), Number(1, 2))
        _, paper = parts_rounded(parts, Number(1))
        self.assertTrue(all(paper is not part for part in parts))
        self.assertIsNot(paper, parts_rounded(parts, Number(1))[1])
