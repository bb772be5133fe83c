"""What stands there, its power, what is meant, and wishes that don't fit."""

import unittest
from fractions import Fraction

from figuretexts.customs import Custom
from figuretexts.errors import FigureError, NoFit
from figuretexts.meaning import meant, stands
from figuretexts.numbers import Number, read_number
from figuretexts.options import WAYS
from figuretexts.wishes import Wish
from tests.apart import PAIRS, WISHES, meant_by, numbers_around, rounded_by, stands_by
from tests.things import fraction, number

WORDS = Custom(words=((3, "k"), (6, "m")))
PLAIN = Custom()


class Meaning(unittest.TestCase):
    def told(self, text, wish, custom, shown, power):
        one = number(Fraction(text))
        what = stands(one, wish, custom)
        self.assertIs(what.__class__, tuple)
        self.assertEqual(len(what), 2)
        self.assertEqual((fraction(what[0]), what[1]), (Fraction(shown), power), text)
        self.assertIs(what[1].__class__, int)
        self.assertEqual(fraction(meant(one, wish, custom)), Fraction(shown) * 10 ** power, text)


class Rounded(Meaning):
    def test_to_most_places(self):
        for text, places, shown in (
            ("12.345", (0, 2), "12.34"), ("12.355", (0, 2), "12.36"), ("-12.345", (0, 2), "-12.34"), ("0.5", (0, 0),
            "0"),
            ("1.5", (0, 0), "2"), ("-2.5", (0, 0), "-2"), ("1/3", (0, 12), "0.333333333333"), ("7", (5, 5), "7"),
            ("1/3", (2, 4), "0.3333"), ("0.005", (0, 2), "0"), ("-0.005", (0, 2), "0"), ("999.995", (0, 2), "1000"),
            ("0", (0, 2), "0"), ("999960", (0, 1), "999960"),
        ):
            self.told(text, Wish(places=places), WORDS, shown, 0)

    def test_to_so_many_figures(self):
        for text, figures, shown in (
            ("1234", 2, "1200"), ("1250", 2, "1200"), ("1350", 2, "1400"), ("999", 2, "1000"), ("0", 3, "0"),
            ("0.0012345", 3, "0.00123"), ("-9.96", 2, "-10"), ("1/3", 12, "0.333333333333"), ("5", 1, "5"),
            ("-0.00096", 1, "-0.001"), ("123456789.5", 12, "123456789.5"), ("1234", 12, "1234"),
        ):
            self.told(text, Wish(figures=figures), WORDS, shown, 0)
            # How many places may stand is not asked there.
            self.told(text, Wish(figures=figures, places=(0, 0)), WORDS, shown, 0)

    def test_by_a_step(self):
        for text, step, shown in (
            ("12.34", "1/4", "12.25"), ("12.375", "1/4", "12.5"), ("12.125", "1/4", "12"), ("-1", "5/2", "0"),
            ("7", "5", "5"), ("-7.5", "5", "-10"), ("1234", "1000", "1000"), ("0", "1/4", "0"), ("500", "1000", "0"),
            ("0.000000000001", "1/1000000000000", "0.000000000001"),
        ):
            wish = Wish(step=read_number(step), places=(0, 12))
            self.told(text, wish, WORDS, shown, 0)

    def test_by_each_way(self):
        for way in WAYS:
            for text in ("2.5", "3.5", "-2.5", "-3.5", "2.4", "2.6", "-2.4", "-2.6", "1/3", "-1/3", "4"):
                for wish, step in (
                    (Wish(places=(0, 0), way=way), 1), (Wish(step=Number(1), way=way), 1), (Wish(figures=1, way=way),
                    1),
                ):
                    if not (wish.figures and text in ("1/3", "-1/3")):
                        self.told(text, wish, PLAIN, str(rounded_by(Fraction(text), Fraction(step), way)), 0)
        self.told("1/3", Wish(figures=1, way="up"), PLAIN, "0.4", 0)
        self.told("-1/3", Wish(figures=1, way="high"), PLAIN, "-0.3", 0)


class Scaled(Meaning):
    def test_at_a_power_just_below_it_and_beyond(self):
        wish = Wish(places=(0, 1), scaled=True)
        for text, shown, power in (
            ("0", "0", 0), ("1", "1", 0), ("-1", "-1", 0), ("999", "999", 0), ("999.94", "999.9", 0), ("1000", "1", 3),
            ("1050", "1", 3), ("1150", "1.2", 3), ("-1150", "-1.2", 3), ("999940", "999.9", 3), ("1000000", "1", 6),
            ("-1000000", "-1", 6), ("1000001", "1", 6), ("123456789", "123.5", 6), ("123456789012", "123456.8", 6),
            ("0.04", "0", 0), ("-0.04", "0", 0),
        ):
            self.told(text, wish, WORDS, shown, power)

    def test_what_is_rounded_comes_to_the_next_power(self):
        for text, wish, shown, power in (
            ("999960", Wish(places=(0, 1), scaled=True), "1", 6),
            ("-999960", Wish(places=(0, 1), scaled=True), "-1", 6),
            ("999950", Wish(places=(0, 1), scaled=True), "1", 6),
            ("999949", Wish(places=(0, 1), scaled=True), "999.9", 3),
            ("999950", Wish(places=(0, 1), scaled=True, way="half odd"), "999.9", 3),
            ("999950", Wish(places=(0, 1), scaled=True, way="half down"), "999.9", 3),
            ("999901", Wish(places=(0, 1), scaled=True, way="up"), "1", 6),
            ("999900", Wish(places=(0, 1), scaled=True, way="up"), "999.9", 3),
            ("-999901", Wish(places=(0, 1), scaled=True, way="low"), "-1", 6),
            ("-999999", Wish(places=(0, 1), scaled=True, way="high"), "-999.9", 3),
            ("999.95", Wish(places=(0, 1), scaled=True), "1", 3),
            ("999.94", Wish(places=(0, 1), scaled=True), "999.9", 0),
            ("999.5", Wish(places=(0, 0), scaled=True), "1", 3),
            ("999.4", Wish(places=(0, 0), scaled=True), "999", 0),
            ("-999.5", Wish(places=(0, 0), scaled=True), "-1", 3),
            ("996", Wish(figures=2, scaled=True), "1", 3),
            ("994", Wish(figures=2, scaled=True), "990", 0),
            ("999500", Wish(figures=3, scaled=True), "1", 6),
            ("999499", Wish(figures=3, scaled=True), "999", 3),
            ("999999999", Wish(figures=1, scaled=True), "1000", 6),
            ("999999999.7", Wish(places=(0, 0), scaled=True), "1000", 6),
            ("999999960000", Wish(places=(0, 1), scaled=True), "1000000", 6),
        ):
            self.told(text, wish, WORDS, shown, power)

    def test_not_scaled(self):
        for text in ("999960", "1000000", "-123456", "999.96"):
            self.told(text, Wish(places=(0, 2)), WORDS, text, 0)

    def test_words_that_lack_and_others(self):
        wish = Wish(places=(0, 2), scaled=True)
        self.told("123456", wish, PLAIN, "123456", 0)
        self.told("999999.999", wish, PLAIN, "1000000", 0)
        near = Custom(words=((1, "a"), (2, "b"), (3, "c")))
        for text, places, shown, power in (
            ("9", 0, "9", 0), ("9.5", 0, "1", 1), ("9.4", 0, "9", 0), ("10", 0, "1", 1), ("15", 0, "2", 1),
            ("25", 0, "2", 1), ("94", 0, "9", 1), ("95", 0, "1", 2), ("95", 1, "9.5", 1), ("999.96", 1, "1", 3),
            ("949", 0, "9", 2), ("950", 0, "1", 3), ("12345", 0, "12", 3), ("0.4", 0, "0", 0),
        ):
            self.told(text, Wish(places=(0, places), scaled=True), near, shown, power)
        far = Custom(words=((30, "q"),))
        self.told(str(10 ** 30), wish, far, "1", 30)
        self.told(str(10 ** 30 - 1), wish, far, str(10 ** 30 - 1), 0)
        self.told(f"{10 ** 33 - 1}/1000", wish, far, "1", 30)
        self.told(str(-(10 ** 30)), wish, far, "-1", 30)
        self.told(str(10 ** 40), wish, far, str(10 ** 10), 30)


class Apart(Meaning):
    def test_held_against_the_rules_made_apart(self):
        numbers = numbers_around()
        for at, (wish, custom) in enumerate(PAIRS):
            for exact in numbers[at % 7::7]:
                one = number(exact)
                shown, power = stands(one, wish, custom)
                self.assertEqual((fraction(shown), power), stands_by(exact, wish, custom), (exact, vars(wish)))
                self.assertEqual(fraction(meant(one, wish, custom)), meant_by(exact, wish, custom))

    def test_what_is_meant_means_itself(self):
        numbers = numbers_around()
        for at, (wish, custom) in enumerate(PAIRS):
            for exact in numbers[at % 19::19]:
                told = meant(number(exact), wish, custom)
                self.assertEqual(meant(told, wish, custom), told)
                self.assertEqual(stands(told, wish, custom), stands(number(exact), wish, custom))


class Great(Meaning):
    def test_numbers_of_some_thousand_figures(self):
        top, bottom = 10 ** 4199 + 7, 3 * 10 ** 4198 + 1
        for one in (Number(top), Number(-top, 3), Number(top, bottom), Number(1, bottom), Number(-bottom, top)):
            exact = fraction(one)
            for wish in (Wish(), Wish(figures=12), Wish(scaled=True), Wish(step=Number(5)), Wish(scaled=True,
            figures=1)):
                told = meant(one, wish, WORDS)
                if wish.figures is None:
                    step = Fraction(5) if wish.step else Fraction(1, 100)
                    if wish.scaled and abs(exact) >= 10 ** 6:
                        step = step * 10 ** 6
                    self.assertEqual(fraction(told), rounded_by(exact, step, "half even"))
                else:
                    self.assertLess(abs(fraction(told) / exact - 1), Fraction(6, 10 ** wish.figures))


class Fits(unittest.TestCase):
    def refused(self, sign, wish, custom):
        for ask in (stands, meant):
            with self.assertRaises(NoFit) as caught:
                ask(Number(1), wish, custom)
            self.assertEqual(caught.exception.thing, sign)

    def test_a_sign_of_each_field(self):
        custom = Custom(
            point=";", group="'", minus=("a", "bc"), plus=("de", "f"), figures="ABCDEFGHIJ", words=((3, "k"), (6,
            "lm")),
            between="<>", about="=?",
        )
        for sign in ";'abcdefABCDEFGHIJklm<>=?":
            for unit in ((sign, ""), ("", sign), ("u" + sign + "u", "v"), ("u", "vv" + sign), (sign, sign)):
                self.refused(sign, Wish(unit=unit), custom)
        for sign in ".,-+0123456789~@$ xyz\"\\K":
            stands(Number(1), Wish(unit=("u" + sign + "u", "v" + sign + "v")), custom)
        for sign in ".,-+0123456789~@":
            self.refused(sign, Wish(unit=(sign, "")), PLAIN)
            self.refused(sign, Wish(unit=("", sign)), PLAIN)

    def test_powers_sizes_and_least_are_no_signs(self):
        custom = Custom(figures="ABCDEFGHIJ", words=((3, "k"),), sizes=(3, 2), least=1)
        for sign in "0123456789":
            stands(Number(1), Wish(unit=(sign, sign)), custom)

    def test_a_line_end(self):
        for unit in (("\n", ""), ("", "\n"), ("u\nu", ""), ("", "u\n")):
            self.refused("\n", Wish(unit=unit), PLAIN)

    def test_a_blank_as_group_sign(self):
        wish = Wish(unit=("u ", " v"))
        stands(Number(1), wish, PLAIN)
        stands(Number(1), wish, Custom(group=""))
        self.refused(" ", wish, Custom(group=" "))
        self.refused(" ", Wish(unit=("", " v")), Custom(group=" "))

    def test_the_first_sign_is_told(self):
        self.refused("5", Wish(unit=("u5", "-@")), PLAIN)
        self.refused("-", Wish(unit=("u", "v-5")), PLAIN)
        self.refused("@", Wish(unit=("@.", "")), PLAIN)
        self.refused("\n", Wish(unit=("u\n.", "")), PLAIN)
        self.refused(".", Wish(unit=("u.\n", "")), PLAIN)
        self.refused("~", Wish(unit=("u~", "\n")), PLAIN)

    def test_whatever_the_number_and_the_wish(self):
        for wish in WISHES:
            for one in (Number(0), Number(-1, 3), Number(10 ** 30)):
                with self.assertRaises(FigureError):
                    stands(one, wish.but(unit=("", "~")), PLAIN)
                with self.assertRaises(NoFit):
                    meant(one, wish.but(unit=("~", "")), PLAIN)

    def test_a_unit_that_fits_changes_nothing(self):
        for unit in (("", ""), ("$", " EUR"), ("a b ", " c d"), ("K", "M")):
            self.assertEqual(stands(Number(12344), Wish(unit=unit, scaled=True), WORDS), (Number(617, 50), 3))


class Module(unittest.TestCase):
    def test_both_stand_in_the_file(self):
        for function in (stands, meant):
            self.assertEqual(function.__module__, "figuretexts.meaning")

    def test_nothing_is_changed_and_nothing_is_shared(self):
        for wish in WISHES:
            one = Number(12)
            first, second = stands(one, wish, PLAIN), stands(one, wish, PLAIN)
            self.assertEqual(first, second)
            told = [one, wish.step, first[0], second[0], meant(one, wish, PLAIN), meant(one, wish, PLAIN)]
            self.assertEqual(len({id(each) for each in told}), 6)
            first[0].top = 99
            self.assertEqual((str(one), stands(one, wish, PLAIN)), ("12", second))
