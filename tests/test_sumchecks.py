"""The checker of parts that come to their sum."""

import unittest
from fractions import Fraction
from itertools import product
from random import Random

from figuretexts.numbers import Number
from figuretexts.sumchecks import sum_holds
from figuretexts.sums import parts_rounded
from tests.test_sums import paper_parts, total_by
from tests.things import number, things

PAPERS = [Fraction(text) for text in (
    "0", "1/10", "1/4", "1/3", "2/5", "1/2", "2/3", "3/4", "9/10", "1", "11/10", "-1/10",
)]


def holds_by(parts, step, counts, paper):
    """Whether (counts, paper), whole numbers and a Fraction, holds."""
    beside = all(abs(part / step - count) < 1 for part, count in zip(parts, counts))
    return beside and sum(counts) == total_by(parts, step) and paper_parts(parts, step, counts, paper)


class Checks(unittest.TestCase):
    def asked(self, parts, step, counts, paper, holds):
        numbers = tuple(number(Fraction(part)) for part in parts)
        thing = (tuple(counts), number(Fraction(paper)))
        self.assertIs(sum_holds(numbers, number(Fraction(step)), thing), holds, (parts, step, counts, paper))


class Holds(Checks):
    def test_what_is_told_holds(self):
        chance = Random(18)
        for _ in range(300):
            step = number(Fraction(chance.choice((1, 2, 5, 100)), chance.choice((1, 3, 8, 10 ** 12))))
            parts = tuple(
                Number(chance.randrange(-10 ** 4, 10 ** 4), chance.choice((1, 2, 3, 10))).times(step)
                for _ in range(chance.randrange(1, 21))
            )
            self.assertIs(sum_holds(parts, step, parts_rounded(parts, step)), True)

    def test_all_counts_and_papers_around(self):
        step = Fraction(1, 2)
        for steps in (
            ("1/3", "1/3", "1/3"), ("1/2", "1/2", "3/2"), ("-1/3", "2/3", "5"), ("1/10", "9/10", "1/2"), ("1/4", "1/4"),
            ("1/3", "2/3", "2/3"), ("-5/2",), ("4",), ("0", "0"), ("1/3", "-1/3"), ("7/4", "3/4"), ("-9/10", "-1/10", "1"),
        ):
            parts = [Fraction(part) * step for part in steps]
            near = [range(Fraction(part).__floor__() - 1, Fraction(part).__floor__() + 3) for part in steps]
            held = 0
            for counts in product(*near):
                for paper in PAPERS:
                    holds = holds_by(parts, step, counts, paper)
                    held += holds
                    self.asked(parts, step, counts, paper, holds)
            self.assertGreater(held, 0)

    def test_counts_exchanged_between_alike_parts(self):
        thirds = ["1/3"] * 3
        for counts in ((1, 0, 0), (0, 1, 0), (0, 0, 1)):
            self.asked(thirds, 1, counts, "1/3", True)
            self.asked(thirds, 1, counts, "1/4", False)
            self.asked(thirds, 1, counts, "2/5", False)
        self.asked(["1/2", "5/2", "-1/2"], 1, (0, 3, -1), "1/2", True)
        self.asked(["1/2", "5/2", "-1/2"], 1, (1, 2, -1), "1/2", True)
        self.asked(["1/2", "5/2", "-1/2"], 1, (0, 2, 0), "1/2", True)
        # Of unlike parts no counts are exchanged.
        self.asked(["1/3", "2/3"], 1, (0, 1), "1/2", True)
        for paper in PAPERS:
            self.asked(["1/3", "2/3"], 1, (1, 0), paper, False)

    def test_a_count_more_less_and_off(self):
        parts, counts = ["1/3", "5/3", "7", "-5/4"], (0, 2, 7, -1)
        self.asked(parts, 1, counts, "2/3", True)
        for at in range(4):
            for off in (-3, -2, -1, 1, 2, 3):
                other = counts[:at] + (counts[at] + off,) + counts[at + 1:]
                for paper in PAPERS:
                    self.asked(parts, 1, other, paper, False)
        # The sum is right, the neighbours aren't.
        for paper in PAPERS:
            self.asked(parts, 1, (0, 3, 6, -1), paper, False)
            self.asked(parts, 1, (1, 2, 6, -1), paper, False)
            self.asked(parts, 1, (0, 2, 8, -2), paper, False)
            self.asked(parts, 1, (-1, 2, 7, 0), paper, False)
            self.asked([1, 2], 1, (2, 1), paper, False)
            self.asked([1, 2], 1, (0, 3), paper, False)
            self.asked(["1/2", "3/2"], 1, (-1, 3), paper, False)

    def test_thresholds(self):
        parts = ["1/4", "3/4", "5"]
        for paper, holds in (
            ("1/4", True), ("1/2", True), ("3/4", True), ("1/3", True), ("0", False), ("1", False), ("1/5", False),
            ("4/5", False), ("-1/4", False), ("5/4", False), ("249/1000", False), ("751/1000", False),
        ):
            self.asked(parts, 1, (0, 1, 5), paper, holds)
        # Multiples are asked nothing.
        for paper, holds in (("0", True), ("1/2", True), ("1", True), ("-1/9", False), ("10/9", False)):
            self.asked([1, 2], 1, (1, 2), paper, holds)
        # None put to its greater neighbour: any from the furthest on; all put there: any up to the least far one.
        for paper, holds in (("0", False), ("1/10", False), ("1/5", True), ("9/10", True), ("1", True), ("2", False)):
            self.asked(["1/10", "1/5"], 1, (0, 0), paper, holds)
        for paper, holds in (("0", True), ("4/5", True), ("5/6", False), ("1", False), ("-1", False)):
            self.asked(["4/5", "9/10"], 1, (1, 1), paper, holds)

    def test_the_sum_is_rounded_by_half_even(self):
        for parts, counts, holds in (
            (["1/4", "1/4"], (0, 0), True), (["1/4", "1/4"], (1, 0), False), (["3/4", "3/4"], (1, 1), True),
            (["3/4", "3/4"], (1, 0), False), (["-1/4", "-1/4"], (0, 0), True), (["-1/4", "-1/4"], (-1, 0), False),
            (["-3/4", "-3/4"], (-1, -1), True), (["-3/4", "-3/4"], (-1, 0), False), (["5/2"], (2,), True),
            (["5/2"], (3,), False), (["7/2"], (4,), True), (["7/2"], (3,), False),
        ):
            held = []
            for paper in ("0", "1/4", "1/2", "3/4", "1"):
                thing = (counts, number(Fraction(paper)))
                held.append(sum_holds(tuple(number(Fraction(part)) for part in parts), Number(1), thing))
            self.assertIs(any(held), holds, (parts, counts))

    def test_great_and_little(self):
        great, little = 10 ** 29, Fraction(1, 10 ** 12)
        third = great * 10 ** 12 // 3
        self.asked([Fraction(great, 3)] * 3, little, (third, third + 1, third), "1/3", True)
        self.asked([Fraction(great, 3)] * 3, little, (third, third, third), "1/3", False)
        self.asked([Fraction(great, 3)] * 3, little, (third, third + 1, third + 1), "1/3", False)
        self.asked([10 ** 30, 1], 10 ** 12, (10 ** 18, 0), "1/2", True)
        self.asked([10 ** 30, 1], 10 ** 12, (10 ** 18, 1), "1/2", False)


class OfAnything(Checks):
    def test_papers_that_are_no_numbers(self):
        parts, counts = (Number(1), Number(0)), (1, 0)
        self.assertIs(sum_holds(parts, Number(1), (counts, Number(1))), True)
        for paper in things() + [0, 1, True, False, "1", "1/2", (1, 2), (Number(1),), [Number(1)], None]:
            if not isinstance(paper, Number):
                self.assertIs(sum_holds(parts, Number(1), (counts, paper)), False, paper)

    def test_counts_of_other_kinds(self):
        parts, paper = (Number(1), Number(0)), Number(1)
        for counts in (
            [1, 0], (True, False), (1, False), (True, 0), (1,), (1, 0, 0), (), (1, None), (1, "0"), ("1", "0"), "10",
            (Number(1), Number(0)), (1, Number(0)), {1: 0, 0: 1}, {1: 1}, ((1, 0),), ((1, 0), 0), (1, (0,)), 1, None, True,
            Number(1), (None, None), ([1], [0]), (1, []),
        ):
            self.assertIs(sum_holds(parts, Number(1), (counts, paper)), False, counts)

    def test_parts_left_out_more_exchanged_and_nested(self):
        parts, counts, paper = (Number(1), Number(0)), (1, 0), Number(1)
        for thing in (
            (counts,), (paper,), (paper, counts), (counts, paper, paper), (counts, counts), (paper, paper), (),
            [counts, paper], ((counts, paper),), [(counts, paper)], counts, paper, (1, 0, paper), (counts, (paper,)),
            ((counts,), paper), {0: counts, 1: paper}, {counts: 1, 1: 0}, "((1, 0), Number(1, 1))", None, True, 0,
        ):
            self.assertIs(sum_holds(parts, Number(1), thing), False, thing)

    def test_things_of_every_kind(self):
        for parts in ((Number(0),), (Number(1, 3), Number(1, 3), Number(1, 3)), (Number(0),) * 20):
            for thing in things():
                self.assertIs(sum_holds(parts, Number(1), thing), False)
                self.assertIs(sum_holds(parts, Number(1), (thing, Number(1))), False)
                self.assertIs(sum_holds(parts, Number(1), (thing, thing)), False)

    def test_great_counts(self):
        great = 10 ** 59
        for counts in ((great, 0), (great, -great), (0, great), (-great, great + 1)):
            self.assertIs(sum_holds((Number(1), Number(0)), Number(1), (counts, Number(1))), False)
        parts = (Number(great), Number(-great))
        self.assertIs(sum_holds(parts, Number(1), ((great, -great), Number(1, 10 ** 59))), True)

    def test_other_parts_and_steps(self):
        parts = (Number(1, 3), Number(2, 3), Number(1, 2))
        told = parts_rounded(parts, Number(1, 2))
        self.assertEqual(told[0], (1, 1, 1))
        self.assertIs(sum_holds(parts, Number(1, 2), told), True)
        self.assertIs(sum_holds(parts, Number(1), told), False)
        self.assertIs(sum_holds(parts, Number(1, 4), told), False)
        self.assertIs(sum_holds((Number(1, 3), Number(1, 2), Number(2, 3)), Number(1, 2), told), True)
        self.assertIs(sum_holds((Number(2, 3), Number(2, 3), Number(2, 3)), Number(1, 2), told), False)
        self.assertIs(sum_holds(parts[:2], Number(1, 2), told), False)
        self.assertIs(sum_holds(parts + (Number(0),), Number(1, 2), told), False)

    def test_nothing_that_is_handed_in_is_changed(self):
        parts, step, thing = (Number(1, 3), Number(2, 3)), Number(1), [[0, 1], Number(1, 2)]
        self.assertIs(sum_holds(parts, step, thing), False)
        good = ((0, 1), Number(1, 2))
        self.assertIs(sum_holds(parts, step, good), True)
        self.assertIs(sum_holds(parts, step, good), True)
        self.assertEqual((thing[0], str(thing[1]), str(step)), ([0, 1], "1/2", "1"))
        self.assertEqual([str(part) for part in parts], ["1/3", "2/3"])
