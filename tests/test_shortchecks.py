"""The checker of the shortest figures that lead back."""

import unittest
from fractions import Fraction

from figuretexts.numbers import Number
from figuretexts.shortchecks import shortest_holds
from figuretexts.shortest import shortest
from tests.apart import rounded_by
from tests.things import number, things

STEPS = [Fraction(text) for text in (
    "1", "1/10", "1/100", "1/3", "2/3", "1/7", "3/8", "1/8", "3/2", "25", "1/1000000000000", "1000000000000",
)]
COUNTS = (-4, -3, -1, 0, 1, 2, 3, 5, 8, 123, 10 ** 30, -(10 ** 30) - 1)


def leads_back(count, places, kept, step):
    return rounded_by(count / Fraction(10) ** places, step, "half even") == kept


def holds_by(kept, step, count, places, paper):
    """Whether the triple, of whole numbers, holds."""
    if not leads_back(count, places, kept, step):
        return False
    if places == 0 or paper is None:
        return places == 0 and paper is None
    below, above = paper
    shifted = kept * Fraction(10) ** (places - 1)
    beside = below <= shifted <= above and above == below + 1
    return beside and not any(leads_back(part, places - 1, kept, step) for part in paper)


class Holds(unittest.TestCase):
    def asked(self, kept, step, thing, holds):
        self.assertIs(shortest_holds(number(Fraction(kept)), number(Fraction(step)), thing), holds, (kept, step, thing))

    def test_what_is_told_holds(self):
        for step in STEPS:
            for count in COUNTS:
                kept, one = number(count * step), number(step)
                self.assertIs(shortest_holds(kept, one, shortest(kept, one)), True, (count, step))

    def test_known_triples(self):
        for kept, step, thing, holds in (
            ("123/100", "1/100", (123, 2, (12, 13)), True), ("123/100", "1/100", (124, 2, (12, 13)), False),
            ("-123/100", "1/100", (-123, 2, (-13, -12)), True), ("-123/100", "1/100", (-123, 2, (-12, -13)), False),
            ("-123/100", "1/100", (-123, 2, (-12, -11)), False), ("1/3", "1/3", (3, 1, (0, 1)), True),
            ("1/3", "1/3", (2, 1, (0, 1)), True), ("1/3", "1/3", (4, 1, (0, 1)), True),
            ("1/3", "1/3", (1, 1, (0, 1)), False), ("1/3", "1/3", (5, 1, (0, 1)), False),
            ("300", "100", (300, 0, None), True), ("300", "100", (251, 0, None), True),
            ("300", "100", (250, 0, None), False), ("300", "100", (349, 0, None), True),
            ("300", "100", (350, 0, None), False), ("200", "100", (150, 0, None), True),
            ("200", "100", (250, 0, None), True), ("200", "100", (251, 0, None), False),
            ("-200", "100", (-150, 0, None), True), ("-200", "100", (-149, 0, None), False),
            ("300", "100", (3000, 1, None), False), ("300", "100", (3000, 1, (299, 300)), False),
            ("300", "100", (3000, 1, (300, 301)), False), ("4/3", "2/3", (1, 0, None), True),
            ("2/3", "2/3", (1, 0, None), False), ("2/3", "2/3", (7, 1, (0, 1)), True),
            ("2/3", "2/3", (9, 1, (0, 1)), True), ("2/3", "2/3", (10, 1, (0, 1)), False),
            ("4/3", "2/3", (13, 1, (1, 2)), False), ("4/3", "2/3", (13, 1, (0, 1)), False),
        ):
            self.asked(kept, step, thing, holds)

    def test_all_triples_around_the_told_one(self):
        for step in STEPS:
            for steps in COUNTS:
                kept = steps * step
                _, told_places, told_paper = shortest(number(kept), number(step))
                for places in range(max(told_places - 2, 0), told_places + 3):
                    near = (kept * 10 ** places).__floor__()
                    papers = [None]
                    if places > 0:
                        low = (kept * Fraction(10) ** (places - 1)).__floor__()
                        papers += [(low + off, low + off + more) for off in (-1, 0, 1) for more in (-1, 0, 1, 2)]
                    for count in (near - 30, near - 5, near - 1, near, near + 1, near + 2, near + 7):
                        for paper in papers:
                            holds = holds_by(kept, step, count, places, paper)
                            self.asked(kept, step, (count, places, paper), holds)

    def test_each_count_that_leads_back_holds(self):
        for step, steps in ((Fraction(1, 7), 3), (Fraction(1, 7), 4), (Fraction(100), 3), (Fraction(100), -4)):
            kept = step * steps
            count, places, paper = shortest(number(kept), number(step))
            held = 0
            for other in range(count - 60, count + 61):
                back = leads_back(other, places, kept, step)
                held += back
                self.asked(kept, step, (other, places, paper), back)
            self.assertGreater(held, 0)

    def test_the_triple_of_another_number_or_step(self):
        thing = shortest(Number(3, 8), Number(1, 8))
        self.assertEqual(thing, (4, 1, (0, 1)))
        self.assertIs(shortest_holds(Number(3, 8), Number(1, 8), thing), True)
        for kept, step in (("4/8", "1/8"), ("2/8", "1/8"), ("-3/8", "1/8"), ("3/8", "3/80"), ("3/8", "3")):
            self.asked(kept, step, thing, False)

    def test_one_place_more_and_one_fewer(self):
        for step in STEPS:
            for steps in (1, 2, 3, -5):
                kept = steps * step
                count, places, _ = shortest(number(kept), number(step))
                more = number(kept * 10 ** places)
                low = more.floor()
                self.asked(kept, step, (count * 10, places + 1, (low, low + 1)), False)
                self.asked(kept, step, (count * 10, places + 1, (low - 1, low)), False)
                if places > 0:
                    near = (kept * Fraction(10) ** (places - 1)).__floor__()
                    lower = (kept * Fraction(10) ** (places - 2)).__floor__()
                    for fewer in (near, near + 1):
                        paper = None if places == 1 else (lower, lower + 1)
                        self.asked(kept, step, (fewer, places - 1, paper), False)

    def test_places_of_sixty_and_more(self):
        for places in (59, 60, 61, 62, 4000, 10 ** 59):
            self.asked("1", "1/3", (0, places, (0, 1)), False)
            self.asked("0", "1/3", (0, places, (0, 1)), False)
            self.asked("0", "1/3", (0, places, (-1, 0)), False)
            self.asked("0", "1/3", (0, places, None), False)
        for places in (-1, -2, -60, -(10 ** 59)):
            self.asked("10", "10", (1, places, None), False)
            self.asked("10", "10", (1, places, (0, 1)), False)
        # Steps that were told: with sixty places the triple holds, with more there is none.
        little = Number(1, 10 ** 12)
        sixty = little.times(little).times(little).times(little).times(little)
        self.assertIs(shortest_holds(sixty, sixty, (1, 60, (0, 1))), True)
        less = sixty.over(Number(10))
        self.assertEqual(shortest(less, less), (1, 61, (0, 1)))
        self.assertIs(shortest_holds(less, less, (1, 61, (0, 1))), False)


class OfAnything(unittest.TestCase):
    def test_truths_are_no_whole_numbers(self):
        tenth, one = Number(1, 10), Number(1)
        self.assertIs(shortest_holds(tenth, tenth, (1, 1, (0, 1))), True)
        for thing in (
            (True, 1, (0, 1)), (1, True, (0, 1)), (1, 1, (False, 1)), (1, 1, (0, True)), (1, 1, (False, True)),
        ):
            self.assertIs(shortest_holds(tenth, tenth, thing), False)
        self.assertIs(shortest_holds(one, one, (1, 0, None)), True)
        for thing in ((True, 0, None), (1, False, None), (1, 0, False), (True, False, None)):
            self.assertIs(shortest_holds(one, one, thing), False)

    def test_parts_left_out_more_exchanged_and_of_other_kinds(self):
        tenth, one = Number(1, 10), Number(1)
        for thing in (
            (1, 1), (1, 1, (0, 1), None), (1, (0, 1)), (1, (0, 1), 1), ((0, 1), 1, 1), [1, 1, (0, 1)], (1, 1, [0, 1]),
            (1, 1, (0,)), (1, 1, (0, 1, 2)), (1, 1, ()), (1, 1, ((0, 1),)), ((1, 1, (0, 1)),), (1, 1, 0, 1), "11(0,1)",
            (1, 1, "01"), ("1", 1, (0, 1)), (1, "1", (0, 1)), (1, 1, ("0", "1")), (1, 1, (0, Number(1))), (1, 1, {0: 1}),
            (Number(1), 1, (0, 1)), (1, Number(1), (0, 1)), (1, 1, Number(1)), (None, 1, (0, 1)), (1, None, (0, 1)),
            (1, 1, (None, None)), (1, 1, (0, None)), ([1], 1, (0, 1)), (1, (1,), (0, 1)), {1: 1, 2: 1, 3: (0, 1)},
            (1, 1, None), (1, 1, (1, 0)), (1, 1, (0, 0)), (1, 1, (1, 1)), (1, 1, (-1, 0)), (1, 1, (0, 2)),
        ):
            self.assertIs(shortest_holds(tenth, tenth, thing), False, thing)
        for thing in (
            (1, 0), (1,), (1, 0, None, None), (1, None), (None, 0, None), (1, 0, 0), (1, 0, ()), (1, 0, (0, 1)),
            (1, 0, (0, 0)), (1, 0, ""), (1, 0, [None]), [1, 0, None], (1, None, 0), (Number(1), 0, None), (1, "", None),
        ):
            self.assertIs(shortest_holds(one, one, thing), False, thing)

    def test_things_of_every_kind(self):
        for thing in things():
            for step in (Number(1), Number(1, 10), Number(1, 7)):
                for kept in (Number(0), step, step.times(Number(-3))):
                    self.assertIs(shortest_holds(kept, step, thing), False)
        for thing in things():
            self.assertIs(shortest_holds(Number(1), Number(1), (1, 0, thing)), thing is None)
            self.assertIs(shortest_holds(Number(1, 10), Number(1, 10), (1, 1, thing)), False)
            if thing.__class__ is not int:
                self.assertIs(shortest_holds(Number(1), Number(1), (thing, 0, None)), False)
                self.assertIs(shortest_holds(Number(1), Number(1), (1, thing, None)), False)
                self.assertIs(shortest_holds(Number(1, 10), Number(1, 10), (thing, 1, (0, 1))), False)
                self.assertIs(shortest_holds(Number(1, 10), Number(1, 10), (1, thing, (0, 1))), False)
                self.assertIs(shortest_holds(Number(1, 10), Number(1, 10), (1, 1, (thing, 1))), False)
                self.assertIs(shortest_holds(Number(1, 10), Number(1, 10), (1, 1, (0, thing))), False)

    def test_great_whole_numbers(self):
        great = 10 ** 59
        for thing in ((great, 0, None), (-great, 0, None), (great, 60, (0, 1)), (1, 1, (great, great + 1))):
            self.assertIs(shortest_holds(Number(1), Number(1), thing), False)
        self.assertIs(shortest_holds(Number(great), Number(1), (great, 0, None)), True)
        tenth = Number(1, 10)
        self.assertIs(shortest_holds(Number(10 * great + 1, 10), tenth, (10 * great + 1, 1, (great, great + 1))), True)
        self.assertIs(shortest_holds(Number(10 * great + 1, 10), tenth, (10 * great + 2, 1, (great, great + 1))), False)

    def test_nothing_that_is_handed_in_is_changed(self):
        kept, step, thing = Number(-7, 8), Number(1, 8), [-9, 1, [-1, 0]]
        self.assertIs(shortest_holds(kept, step, thing), False)
        self.assertIs(shortest_holds(kept, step, (-9, 1, (-1, 0))), True)
        self.assertIs(shortest_holds(kept, step, (-9, 1, (-1, 0))), True)
        self.assertEqual((str(kept), str(step), thing), ("-7/8", "1/8", [-9, 1, [-1, 0]]))
