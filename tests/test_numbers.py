"""Numbers: made, compared, counted with, and read."""

import unittest
from fractions import Fraction

from figuretexts.errors import NoBottom, NoText
from figuretexts.numbers import Number, places_of, power_of, read_number
from tests.things import fraction, fractions_between, number, things

SOME = fractions_between(-3, 3, (1, 2, 3, 7, 10))


def fields(told):
    return told.top, told.bottom


class Made(unittest.TestCase):
    def test_the_fields_are_in_lowest_terms_with_the_bottom_above_nought(self):
        for top in range(-30, 31):
            for bottom in range(-30, 31):
                if bottom != 0:
                    exact = Fraction(top, bottom)
                    self.assertEqual(fields(Number(top, bottom)), (exact.numerator, exact.denominator))

    def test_the_bottom_left_out_is_one(self):
        for top in (-7, 0, 1, 10 ** 30):
            self.assertEqual(fields(Number(top)), (top, 1))

    def test_numbers_of_any_size(self):
        great = 10 ** 6000
        self.assertEqual(fields(Number(6 * great, -4 * great)), (-3, 2))
        self.assertEqual(fields(Number(great + 1, great)), (great + 1, great))
        self.assertEqual(Number(great, 3), Number(-2 * great, -6))
        self.assertNotEqual(Number(great), Number(great + 1))
        self.assertTrue(Number(great).below(Number(great + 1)))

    def test_no_bottom(self):
        for top in (-5, 0, 4, 10 ** 30):
            with self.assertRaises(NoBottom) as caught:
                Number(top, 0)
            self.assertEqual(caught.exception.top, top)


class Compared(unittest.TestCase):
    def test_a_number_is_equal_to_one_as_great(self):
        for one in SOME:
            for other in SOME:
                self.assertIs(number(one) == number(other), one == other)
                self.assertIs(number(one) != number(other), one != other)
        self.assertTrue(Number(2, 4) == Number(-1, -2))
        self.assertFalse(Number(2, 4) != Number(-1, -2))

    def test_a_number_is_equal_to_nothing_else(self):
        others = [thing for thing in things() if not isinstance(thing, Number)]
        others += [1, True, "1", "1/2", (1, 2), [1, 2], (1, 1), Fraction(1, 2), Fraction(1), None, 0, False, "0"]
        for told in (Number(0), Number(1), Number(1, 2)):
            for other in others:
                self.assertIs(told == other, False, other)
                self.assertIs(other == told, False, other)
                self.assertIs(told != other, True, other)
                self.assertIs(other != told, True, other)

    def test_below(self):
        for one in SOME:
            for other in SOME:
                self.assertIs(number(one).below(number(other)), one < other)


class Shown(unittest.TestCase):
    def test_str(self):
        self.assertEqual(str(Number(5)), "5")
        self.assertEqual(str(Number(-10, 4)), "-5/2")
        self.assertEqual(str(Number(0, -9)), "0")
        self.assertEqual(str(Number(7, -7)), "-1")
        self.assertEqual(str(Number(10 ** 30, 3)), "1" + "0" * 30 + "/3")

    def test_repr(self):
        self.assertEqual(repr(Number(5)), "Number(5, 1)")
        self.assertEqual(repr(Number(10, -4)), "Number(-5, 2)")
        self.assertEqual(repr(Number(0, 3)), "Number(0, 1)")

    def test_great_numbers(self):
        self.assertEqual(str(Number(-(10 ** 4199))), "-1" + "0" * 4199)
        self.assertEqual(repr(Number(1, 10 ** 4199)), "Number(1, 1" + "0" * 4199 + ")")


class CountedWith(unittest.TestCase):
    def test_more_less_times_over(self):
        for one in SOME:
            for other in SOME:
                self.assertEqual(fraction(number(one).more(number(other))), one + other)
                self.assertEqual(fraction(number(one).less(number(other))), one - other)
                self.assertEqual(fraction(number(one).times(number(other))), one * other)
                if other != 0:
                    told = number(one).over(number(other))
                    self.assertEqual(fraction(told), one / other)
                    self.assertGreater(told.bottom, 0)

    def test_over_of_nought_tells_the_own_top(self):
        for one, top in ((Number(6, 4), 3), (Number(-7), -7), (Number(0), 0)):
            with self.assertRaises(NoBottom) as caught:
                one.over(Number(0))
            self.assertEqual(caught.exception.top, top)

    def test_size_and_floor(self):
        for one in SOME:
            self.assertEqual(fraction(number(one).size()), abs(one))
            self.assertEqual(number(one).floor(), one.__floor__())
            self.assertIs(number(one).floor().__class__, int)
        self.assertEqual(Number(-1, 10 ** 12).floor(), -1)
        self.assertEqual(Number(-3).floor(), -3)
        self.assertEqual(Number(10 ** 30, 7).floor(), 10 ** 30 // 7)

    def test_what_is_told_is_an_object_of_its_own(self):
        one, other = Number(3, 4), Number(0)
        for told in (one.more(other), one.less(other), one.times(Number(1)), one.over(Number(1)), one.size()):
            self.assertEqual(told, one)
            self.assertIsNot(told, one)

    def test_nothing_that_is_handed_in_is_changed(self):
        one, other = Number(-3, 4), Number(5, 6)
        for ask in (one.more, one.less, one.times, one.over, one.below):
            self.assertEqual(str(ask(other)), str(ask(other)))
        one.size()
        one.floor()
        self.assertEqual((fields(one), fields(other)), ((-3, 4), (5, 6)))


class Read(unittest.TestCase):
    def refused(self, thing):
        with self.assertRaises(NoText, msg=repr(thing)[:80]) as caught:
            read_number(thing)
        self.assertEqual(caught.exception.at, 0)

    def test_what_str_tells_is_read(self):
        for one in SOME + [Fraction(10 ** 30), Fraction(-(10 ** 30), 10 ** 12 - 1)]:
            told = read_number(str(number(one)))
            self.assertEqual(fraction(told), one)
            self.assertIsInstance(told, Number)

    def test_texts_of_few_signs_that_str_tells_are_read_and_no_others(self):
        signs = "-/ 0124\n"
        texts = [""]
        for _ in range(5):
            texts = texts + [text + sign for text in texts if len(text) == len(texts[-1]) for sign in signs]
        right = {str(Number(top, bottom)) for top in range(-9999, 9999) for bottom in (1, 2, 4)}
        right |= {str(Number(top, bottom)) for top in range(-99, 1000) for bottom in range(1, 100)}
        right |= {str(Number(top, bottom)) for top in range(-9, 10) for bottom in range(1, 1000)}
        right |= {str(Number(top)) for top in range(-9999, 100000)}
        for text in texts:
            if text in right:
                self.assertEqual(str(read_number(text)), text)
            else:
                self.refused(text)

    def test_what_is_no_such_text(self):
        for text in (
            "", " ", "-", "/", "-/", "--1", "- 1", "+1", "01", "00", "-0", "-01", " 1", "1 ", "1\n", "\n1", "1\n2",
            "1/", "/2", "1/0", "0/0", "1/1", "-5/1", "0/2", "2/4", "6/3", "1/02", "01/2", "1/-2", "-1/-2", "1/+2",
            "1/2/3", "1//2", "1 /2", "1/ 2", "1/2 ", "1.5", "1,000", "1e3", "1_000", "0x1", "a", "one", "1/2\n",
            "\u00b2", "\u0661",
        ):
            self.refused(text)

    def test_at_most_sixty_signs(self):
        for text in ("9" * 60, "-" + "9" * 59, "1/" + "9" * 58, "-1/" + "1" * 57, "1" + "0" * 59):
            self.assertEqual(len(text), 60)
            self.assertEqual(str(read_number(text)), text)
        for text in ("9" * 61, "-" + "9" * 60, "1/" + "9" * 59, "-1/" + "1" * 58, "0" * 4000):
            self.refused(text)

    def test_anything_else(self):
        for thing in things():
            self.refused(thing)


class Places(unittest.TestCase):
    def test_as_few_as_write_it(self):
        for text, places in (
            ("0", 0), ("7", 0), ("-1000", 0), ("1/2", 1), ("-1/5", 1), ("3/10", 1), ("1/4", 2), ("1/25", 2),
            ("7/20", 2), ("1/8", 3), ("1/125", 3), ("-1/16", 4), ("1/1000000000000", 12), ("1/50", 2), ("1/80", 4),
        ):
            self.assertEqual(places_of(read_number(text)), places, text)

    def test_none_where_none_do(self):
        for text in ("1/3", "-2/7", "1/6", "1/15", "1/30", "22/7", "1/999999999999", "5/12"):
            self.assertIsNone(places_of(read_number(text)), text)

    def test_held_against_trying(self):
        for bottom in range(1, 700):
            fits = [places for places in range(12) if 10 ** places % bottom == 0]
            self.assertEqual(places_of(Number(1, bottom)), fits[0] if fits else None)

    def test_great_bottoms(self):
        self.assertEqual(places_of(Number(1, 10 ** 4000)), 4000)
        self.assertEqual(places_of(Number(3, 2 ** 9000)), 9000)


class Powers(unittest.TestCase):
    def test_at_a_power_of_ten_just_below_and_just_above_it(self):
        for power in range(-60, 61):
            ten = Fraction(10) ** power
            little = Fraction(1, 10 ** 90)
            for sign in (1, -1):
                self.assertEqual(power_of(number(sign * ten)), power)
                self.assertEqual(power_of(number(sign * (ten - little))), power - 1)
                self.assertEqual(power_of(number(sign * (ten + little))), power)
                self.assertEqual(power_of(number(sign * ten * 9)), power)
                self.assertEqual(power_of(number(sign * ten / 3)), power - 1)

    def test_many_numbers(self):
        for one in fractions_between(-120, 120, (1, 3, 7)):
            if one != 0:
                power = power_of(number(one))
                self.assertIs(power.__class__, int)
                self.assertTrue(Fraction(10) ** power <= abs(one) < Fraction(10) ** (power + 1), one)

    def test_great_numbers(self):
        for power in (100, 4199):
            self.assertEqual(power_of(Number(10 ** power)), power)
            self.assertEqual(power_of(Number(10 ** power - 1)), power - 1)
            self.assertEqual(power_of(Number(-1, 10 ** power)), -power)
            self.assertEqual(power_of(Number(1, 10 ** power + 1)), -power - 1)


class Asked(unittest.TestCase):
    def test_the_same_asked_of_the_same_is_told_the_same(self):
        for one in SOME:
            told = number(one)
            self.assertEqual(places_of(told), places_of(told))
            self.assertEqual(read_number(str(told)), read_number(str(told)))
            if one != 0:
                self.assertEqual(power_of(told), power_of(told))
            self.assertEqual(fraction(told), one)
