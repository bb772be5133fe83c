"""The checker of papers of roundings."""

import unittest
from fractions import Fraction

from figuretexts.numbers import Number
from figuretexts.options import WAYS
from figuretexts.roundchecks import round_holds
from figuretexts.rounding import round_paper
from tests.things import fractions_between, number, things

STEPS = [Fraction(1), Fraction(3, 7), Fraction(25), Fraction(1, 10 ** 12), Fraction(10 ** 12)]
PARTS = fractions_between(-3, 3, (1, 2, 3, 5))


class Holds(unittest.TestCase):
    def test_just_the_paper_holds_among_all_papers_beside_it(self):
        for part in PARTS:
            for way in WAYS:
                paper = round_paper(number(part), Number(1), way=way)
                near = range(paper[0] - 2, paper[1] + 3)
                for thing in [(low, high, taken) for low in near for high in near for taken in near]:
                    self.assertIs(round_holds(number(part), Number(1), way, thing), thing == paper, (part, way, thing))

    def test_papers_by_many_steps(self):
        for step in STEPS:
            for part in PARTS:
                one = number(part * step)
                for way in WAYS:
                    paper = round_paper(one, number(step), way=way)
                    self.assertIs(round_holds(one, number(step), way, paper), True)
                    other = (paper[0], paper[1], paper[0] + paper[1] - paper[2])
                    self.assertIs(round_holds(one, number(step), way, other), paper[0] == paper[1])

    def test_known_papers(self):
        for way, text, paper in (
            ("up", "-5/2", (-3, -2, -3)), ("down", "-5/2", (-3, -2, -2)), ("high", "-5/2", (-3, -2, -2)),
            ("low", "-5/2", (-3, -2, -3)), ("half up", "-5/2", (-3, -2, -3)), ("half down", "-5/2", (-3, -2, -2)),
            ("half even", "-5/2", (-3, -2, -2)), ("half odd", "-5/2", (-3, -2, -3)), ("half odd", "-1/2", (-1, 0, -1)),
            ("half even", "-1/2", (-1, 0, 0)), ("half up", "7/3", (2, 3, 2)), ("half down", "8/3", (2, 3, 3)),
            ("up", "0", (0, 0, 0)), ("low", "-4", (-4, -4, -4)), ("up", "1/9", (0, 1, 1)), ("up", "-1/9", (-1, 0, -1)),
        ):
            one = number(Fraction(text))
            self.assertIs(round_holds(one, Number(1), way, paper), True, (way, text))
            other = (paper[0], paper[1], paper[0] + paper[1] - paper[2])
            self.assertIs(round_holds(one, Number(1), way, other), paper[0] == paper[1], (way, text))

    def test_the_paper_of_another_number_step_or_way(self):
        paper = round_paper(Number(5, 2), Number(1), way="half up")
        self.assertEqual(paper, (2, 3, 3))
        self.assertTrue(round_holds(Number(5, 2), Number(1), "half up", paper))
        self.assertFalse(round_holds(Number(7, 2), Number(1), "half up", paper))
        self.assertFalse(round_holds(Number(3, 2), Number(1), "half up", paper))
        self.assertFalse(round_holds(Number(-5, 2), Number(1), "half up", paper))
        self.assertFalse(round_holds(Number(5, 2), Number(2), "half up", paper))
        self.assertFalse(round_holds(Number(5, 2), Number(1, 2), "half up", paper))
        self.assertFalse(round_holds(Number(5, 2), Number(1), "half even", paper))
        self.assertFalse(round_holds(Number(2), Number(1), "half up", paper))
        self.assertFalse(round_holds(Number(3), Number(1), "half up", paper))

    def test_the_paper_of_a_number_next_to_a_half(self):
        little = Fraction(1, 10 ** 30)
        for way in WAYS[4:]:
            for half in (Fraction(5, 2), Fraction(-3, 2)):
                low = half.__floor__()
                below, above = number(half - little), number(half + little)
                self.assertTrue(round_holds(below, Number(1), way, (low, low + 1, low)))
                self.assertFalse(round_holds(below, Number(1), way, (low, low + 1, low + 1)))
                self.assertTrue(round_holds(above, Number(1), way, (low, low + 1, low + 1)))
                self.assertFalse(round_holds(above, Number(1), way, (low, low + 1, low)))

    def test_a_multiple_has_the_one_paper(self):
        for way in WAYS:
            for count in (-3, -1, 0, 1, 2):
                one = Number(count * 3, 2)
                self.assertIs(round_holds(one, Number(3, 2), way, (count, count, count)), True)
                for paper in (
                    (count, count + 1, count), (count - 1, count, count), (count, count, count + 1),
                    (count - 1, count + 1, count), (count + 1, count + 1, count + 1), (-count - 1,) * 3,
                ):
                    self.assertIs(round_holds(one, Number(3, 2), way, paper), False)


class OfAnything(unittest.TestCase):
    def test_truths_are_no_whole_numbers(self):
        for paper in ((False, 1, 1), (0, True, 1), (0, 1, True), (False, True, True), (False, True, 1)):
            self.assertIs(round_holds(Number(1, 2), Number(1), "up", paper), False)
        for paper in ((False, 0, 0), (0, False, 0), (0, 0, False), (False,) * 3):
            self.assertIs(round_holds(Number(0), Number(1), "up", paper), False)
        self.assertIs(round_holds(Number(1), Number(1), "up", (True,) * 3), False)

    def test_parts_left_out_more_exchanged_and_of_other_kinds(self):
        one = Number(7, 2)
        self.assertIs(round_holds(one, Number(1), "up", (3, 4, 4)), True)
        for thing in (
            (3, 4), (4, 4), (3, 4, 4, 4), (3, 4, 4, None), (), (4, 3, 4), (4, 4, 3), [3, 4, 4], {3: 4, 4: 4}, "344",
            ("3", "4", "4"), (Number(3), Number(4), Number(4)), (3, 4, Number(4)), (3, 4, None), (None, 4, 4),
            (3, 4, (4,)), ((3, 4, 4),), ((3, 4), 4), [(3, 4, 4)], (3, 4, [4]), (3, 4, "4"), ([], {}, ()), None, 4, "",
        ):
            self.assertIs(round_holds(one, Number(1), "up", thing), False, thing)

    def test_things_of_every_kind(self):
        for way in WAYS:
            for thing in things():
                for one in (Number(0), Number(1), Number(-1, 2)):
                    self.assertIs(round_holds(one, Number(1), way, thing), False)

    def test_great_whole_numbers_in_a_paper(self):
        great = 10 ** 59
        for paper in ((great, great + 1, great), (-great, great, great), (great,) * 3, (0, 1, great)):
            self.assertIs(round_holds(Number(1, 2), Number(1), "low", paper), False)
        self.assertIs(round_holds(Number(2 * great + 1, 2), Number(1), "low", (great, great + 1, great)), True)

    def test_nothing_that_is_handed_in_is_changed(self):
        one, step, thing = Number(-7, 2), Number(2, 3), [-6, -5, [-5]]
        self.assertIs(round_holds(one, step, "up", thing), False)
        self.assertIs(round_holds(one, step, "up", (-6, -5, -6)), True)
        self.assertIs(round_holds(one, step, "up", (-6, -5, -6)), True)
        self.assertEqual((str(one), str(step), thing), ("-7/2", "2/3", [-6, -5, [-5]]))
