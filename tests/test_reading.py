"""Texts read strictly: those that are written, and no others."""

import unittest
from fractions import Fraction
from itertools import product

from figuretexts.customs import Custom
from figuretexts.errors import FigureError, NoFit, NoRead
from figuretexts.meaning import meant
from figuretexts.numbers import Number
from figuretexts.reading import read_strictly
from figuretexts.wishes import Wish
from figuretexts.writing import written
from tests.apart import PAIRS, WISHES, meant_by, numbers_around, written_by
from tests.things import fraction, number, things

PLAIN = Custom()
WORDS = Custom(words=((3, "k"), (6, "m")))


class Reading(unittest.TestCase):
    def told(self, text, wish, custom, exact):
        what = read_strictly(text, wish, custom)
        self.assertIsInstance(what, Number)
        self.assertEqual(fraction(what), Fraction(exact), text)

    def refused(self, thing, wish, custom):
        with self.assertRaises(NoRead, msg=(repr(thing)[:200], vars(wish))) as caught:
            read_strictly(thing, wish, custom)
        self.assertIs(caught.exception.thing, thing)


class ReadBack(Reading):
    def test_ordinary_texts(self):
        brackets, letters = Custom(minus=("(", ")")), Custom(figures="ABCDEFGHIJ", group="'", point=";")
        for text, exact in (
            ("0", "0"), ("5", "5"), ("-5", "-5"), ("5.25", "5.25"), ("1,234,567.8", "1234567.8"), ("0.05", "0.05"),
            ("-0.5", "-0.5"), ("-1,000", "-1000"),
        ):
            self.told(text, Wish(), PLAIN, exact)
        for text, wish, custom, exact in (
            ("5.00", Wish(places=(2, 2)), PLAIN, "5"),
            ("+5", Wish(signs="all"), PLAIN, "5"),
            ("0", Wish(signs="all"), PLAIN, "0"),
            ("1234", Wish(grouped=False), PLAIN, "1234"),
            ("($ 5 m)", Wish(unit=("$ ", " m")), brackets, "-5"),
            ("120", Wish(figures=2), PLAIN, "120"),
            ("0.00", Wish(figures=3), PLAIN, "0"),
            ("1.2k", Wish(figures=2, scaled=True), WORDS, "1200"),
            ("1.0m", Wish(places=(1, 1), scaled=True), WORDS, "1000000"),
            ("1 234,5", Wish(), Custom(group=" ", point=","), "1234.5"),
            ("B'ACE;F", Wish(), letters, "1024.5"),
            ("1,500", Wish(step=Number(250)), PLAIN, "1500"),
            ("5-", Wish(), Custom(minus=("", "-")), "-5"),
        ):
            self.told(text, wish, custom, exact)

    def test_each_written_text_comes_back(self):
        numbers = numbers_around()
        for at, (wish, custom) in enumerate(PAIRS):
            for exact in numbers[at % 11::11]:
                text = written_by(exact, wish, custom)
                told = read_strictly(text, wish, custom)
                self.assertEqual(fraction(told), meant_by(exact, wish, custom), (text, vars(wish)))
                self.assertEqual(told, meant(number(exact), wish, custom))

    def test_words_that_begin_like_one_another(self):
        custom = Custom(words=((1, "a"), (2, "aa"), (3, "ab"), (4, "aab"), (5, "b"), (30, "ba")))
        wish = Wish(scaled=True, places=(0, 0))
        for text, exact in (
            ("5", 5), ("5a", 50), ("5aa", 500), ("5ab", 5000), ("5aab", 50000), ("5b", 500000), ("5ba", 5 * 10 ** 30),
            ("5,000b", 5 * 10 ** 8), ("-5aa", -500),
        ):
            self.told(text, wish, custom, exact)
        for text in ("5aaa", "5bb", "5bab", "5aba", "50a", "10", "10a", "5A", "a", "-a", "5a5", "a5", "5 a", "1000b5"):
            self.refused(text, wish, custom)


class NoOthers(Reading):
    def test_texts_that_are_written_of_no_number(self):
        for text in (
            "", " ", "-", "+", ".", ",", "--5", "-+5", "+5", "5-", "- 5", " 5", "5 ", "-0", "05", "00", "-05", "5.",
            ".5", "-.5",
            "5.0", "5.50", "5.123", "5.100", "0.0", "1234", "12,34", "1,2345", "1,234,", ",234", "1,,234", "0,123",
            "1.234,5",
            "123,4", "1,2,3,4", "1,234.5,6", "1.2.3", "5k", "5m", "1e3", "one", "$5", "5$", "5\n", "\n5", "1,234\n",
            "5@", "@5",
            "5~6", "~5", "\u0665", "5\u00a0", "1'234", "5.2 5", "5 5", "1, 234", "1 ,234", "0x5", "-", "5--", "(5)",
            "1,23",
        ):
            self.refused(text, Wish(), PLAIN)

    def test_a_sign_left_out_put_in_twice_exchanged(self):
        for wish, custom, exact in (
            (Wish(unit=("$ ", " !")), Custom(minus=("(", ")")), "-1234567.89"), (Wish(signs="all"), PLAIN, "1234567.5"),
            (Wish(places=(2, 4)), Custom(sizes=(3, 2), minus=("--", "-")), "-123456.7"),
            (Wish(figures=5), Custom(sizes=(1,), point=",", group="."), "1230"), (Wish(figures=3), PLAIN, "0.000123"),
            (Wish(scaled=True, places=(1, 2)), WORDS, "-999940"), (Wish(step=Number(25)), PLAIN, "1025"),
            (Wish(grouped=False, places=(0, 0)), PLAIN, "100200"), (Wish(places=(2, 2)), PLAIN, "0"),
            (Wish(), Custom(group=" ", plus=("", "+"), figures="ABCDEFGHIJ"), "10203.04"),
        ):
            text = written_by(Fraction(exact), wish, custom)
            signs = set(text + " 01,.-+k\n" + custom.figures[0])
            changed = {text[:at] + text[at + 1:] for at in range(len(text))}
            changed |= {text[:at] + text[at:at + 2][::-1] + text[at + 2:] for at in range(len(text))}
            for at in range(len(text) + 1):
                for sign in signs:
                    changed |= {text[:at] + sign + text[at:], text[:at] + sign + text[at + 1:]}
            for other in changed:
                self.only_if_written(other, wish, custom)

    def only_if_written(self, text, wish, custom):
        """Hold what is read against the rules: the figures of a text tell the one number of which it may be written."""
        point, nought = custom.point, custom.figures
        told = text.replace(custom.group, "").replace(point, ".")
        for pair in (custom.minus, custom.plus):
            for part in pair:
                told = told.replace(part, "")
        for part in wish.unit:
            told = told.replace(part, "").replace(part.replace(" ", ""), "")
        power = 0
        for exponent, word in custom.words:
            if told.endswith(word):
                told, power = told[:-len(word)], exponent
        told = "".join("." if sign == "." else str(nought.find(sign)) for sign in told.strip())
        exact = None
        if told.replace(".", "", 1).isdigit() and told.isascii() and told[0] != "." and told[-1] != ".":
            exact = Fraction(told) * 10 ** power
        for one in () if exact is None else (exact, -exact):
            if written_by(one, wish, custom) == text:
                self.told(text, wish, custom, one)
                return
        self.refused(text, wish, custom)

    def test_of_all_short_texts_those_that_are_written_and_no_others(self):
        tenths = [Fraction(top, 10) for top in range(-9999, 10000)]
        fives = [Fraction(5 * top, 2) for top in range(-400, 400)] + list(range(0, 100000, 5))
        few = [top * Fraction(10) ** power for top in range(-99, 100) for power in range(-4, 6)]
        scaled = [top * Fraction(10) ** power for top in range(-999, 1000) for power in (-1, 0, 1, 2)]
        for wish, custom, signs, numbers in (
            (Wish(places=(0, 1)), Custom(sizes=(2,), words=((3, "k"),)), "059,.-k", tenths + list(range(10000))),
            (Wish(places=(1, 1), signs="all"), Custom(sizes=(1, 2), least=2), "09,.-+", tenths),
            (Wish(figures=2), Custom(sizes=(2,), minus=("", "-"), group=" "), "015. -", few),
            (Wish(step=Number(5, 2), grouped=False), Custom(minus=("(", ")")), "05.2()", fives),
            (Wish(scaled=True, places=(0, 1)), Custom(group="", words=((1, "k"), (2, "kk"))), "019.k-", scaled),
        ):
            # All that are written in five signs of these, or fewer, are among them.
            right = {written_by(Fraction(one), wish, custom): meant_by(Fraction(one), wish, custom) for one in numbers}
            for many in range(6):
                for text in map("".join, product(signs, repeat=many)):
                    if text in right:
                        self.told(text, wish, custom, right[text])
                    else:
                        self.refused(text, wish, custom)

    def test_no_text_is_read_as_two_numbers_and_no_number_has_two_texts(self):
        numbers = numbers_around()
        for wish, custom in PAIRS[::9]:
            read = {}
            for exact in numbers[::9]:
                text = written(number(exact), wish, custom)
                told = read_strictly(text, wish, custom)
                self.assertEqual(read.setdefault(text, told), told)
                self.assertEqual(written(told, wish, custom), text)
            self.assertEqual(len({str(told) for told in read.values()}), len(read))

    def test_numbers_that_are_not_rounded_so(self):
        self.refused("1,234", Wish(figures=2), PLAIN)
        self.refused("12.5", Wish(figures=2), PLAIN)
        self.refused("12.0", Wish(figures=2), PLAIN)
        self.refused("0.0", Wish(figures=1), PLAIN)
        self.refused("0", Wish(figures=2), PLAIN)
        self.refused("7", Wish(step=Number(5)), PLAIN)
        self.refused("5.3", Wish(step=Number(1, 4)), PLAIN)
        self.refused("5.25", Wish(places=(0, 1)), PLAIN)
        self.refused("5", Wish(places=(1, 2)), PLAIN)

    def test_words_of_other_powers(self):
        wish = Wish(places=(0, 1), scaled=True)
        self.told("999.9k", wish, WORDS, 999900)
        for text in ("1000", "1,000", "0k", "0.5k", "1,000k", "1,000.5k", "0.9m", "1.25k", "1.0k", "0m", "5kk", "k",
        "5km"):
            self.refused(text, wish, WORDS)
        self.told("1,000m", wish, WORDS, 10 ** 9)
        for text in ("5k", "1m", "5,000k"):
            self.refused(text, Wish(), WORDS)
            self.refused(text, wish, PLAIN)
        self.told("5,000", Wish(), WORDS, 5000)
        self.told("5,000", wish, PLAIN, 5000)

    def test_units(self):
        wish = Wish(unit=("$ ", " m"))
        self.told("$ 5 m", wish, PLAIN, 5)
        for text in (
            "5", "$ 5", "5 m", "$5 m", "$ 5m", "$  5 m", "$ 5  m", "m 5 $", "-$ -5 m", "$ -5 m", "$ 5 m-", "$ - 5 m",
            "$  m",
            "$ m", "$ 5 m ", " $ 5 m", "$ $ 5 m", "$ 5 m m", "$ 5 mm", "- $ 5 m",
        ):
            self.refused(text, wish, PLAIN)
        self.told("-$ 5 m", wish, PLAIN, -5)
        self.refused("a", Wish(unit=("a", "a")), PLAIN)
        self.refused("aa", Wish(unit=("a", "a")), PLAIN)
        self.told("a5a", Wish(unit=("a", "a")), PLAIN, 5)
        self.refused("-", Wish(), Custom(minus=("-", "-")))
        self.refused("--", Wish(), Custom(minus=("-", "-")))
        self.told("-5-", Wish(), Custom(minus=("-", "-")), -5)
        self.refused("-5", Wish(), Custom(minus=("-", "-")))


class OfAnything(Reading):
    def test_things_that_are_no_texts(self):
        for thing in things():
            for wish in (Wish(), Wish(figures=3), Wish(scaled=True), Wish(step=Number(1)), Wish(unit=("$", ""))):
                self.refused(thing, wish, PLAIN)
                self.refused(thing, wish, WORDS)
        for thing in (5, Number(5), ["5"], ("5",), {"5": 5}, None, True):
            self.refused(thing, Wish(), PLAIN)

    def test_no_fit_goes_first(self):
        for thing in things() + ["5", "5~", "$5", 5]:
            for wish in WISHES[::4]:
                with self.assertRaises(NoFit) as caught:
                    read_strictly(thing, wish.but(unit=("", "u~.")), PLAIN)
                self.assertEqual(caught.exception.thing, "~")
                with self.assertRaises(FigureError):
                    read_strictly(thing, wish.but(unit=("\n", "")), PLAIN)

    def test_texts_of_four_thousand_signs(self):
        for text in (
            "1" * 4000, "0" * 4000, "1,"[::-1] * 2000, "1," * 2000, "0." + "1" * 3998, "." * 4000, "-" * 4000,
            "k" * 4000,
            " " * 4000, "1 " * 2000, "1" + "0" * 3999, "0." + "0" * 3997 + "1", "~" * 4000, "1k" * 2000,
        ):
            for wish in (Wish(), Wish(scaled=True), Wish(step=Number(5)), Wish(figures=2)):
                self.refused(text, wish, WORDS)


class Great(Reading):
    def test_a_text_of_some_thousand_figures(self):
        plain = Custom(group="")
        top = 0
        figures = "1234567890" * 399
        for at in range(0, 3990, 30):
            top = top * 10 ** 30 + int(figures[at:at + 30])
        self.told(figures, Wish(), plain, top)
        self.told("-" + figures + ".25", Wish(), plain, -(top + Fraction(1, 4)))
        self.told(figures, Wish(step=Number(5)), plain, top)
        self.refused(figures[:-1] + "1", Wish(step=Number(5)), plain)
        self.refused(figures, Wish(figures=12), plain)
        self.told("12" + "0" * 3990, Wish(figures=2), plain, 12 * 10 ** 3990)
        self.told("12" + "0" * 3990 + "m", Wish(figures=2, scaled=True), WORDS.but(group=""), 12 * 10 ** 3996)
        self.told("0." + "0" * 3980 + "12", Wish(figures=2), plain, Fraction(12, 10 ** 3982))
        self.refused("0." + "0" * 3980 + "12", Wish(), plain)
        self.refused("0." + "0" * 3980 + "12", Wish(figures=3), plain)

    def test_texts_of_more_figures_than_python_reads_at_once(self):
        for many in (59, 60, 61, 119, 120, 121, 4299, 4300, 4301, 6000, 6001):
            top = 10 ** many - 10 ** (many // 2)
            ungrouped = Custom(group="")
            text = "9" * (many - many // 2) + "0" * (many // 2)
            self.told(text, Wish(), ungrouped, top)
            self.told("-" + text, Wish(), ungrouped, -top)
            self.assertEqual(written(Number(top), Wish(), ungrouped), text)
            self.told("1" + "0" * many, Wish(), ungrouped, 10 ** many)
            self.assertEqual(written(Number(10 ** many), Wish(), ungrouped), "1" + "0" * many)

    def test_what_was_told_may_be_handed_in_again(self):
        custom = Custom(sizes=(1,), words=((30, "q"),))
        for one in (Number(10 ** 4199 + 7), Number(-(10 ** 4200 - 1), 7), Number(1, 3 * 10 ** 4190), Number(7 ** 4900,
        9 ** 2000)):
            for wish in (
                Wish(places=(12, 12)), Wish(figures=12), Wish(scaled=True, unit=("$", "!")), Wish(step=Number(125,
                100)),
            ):
                text = written(one, wish, custom)
                told = read_strictly(text, wish, custom)
                self.assertEqual(told, meant(one, wish, custom))
                self.assertEqual(written(told, wish, custom), text)


class Module(unittest.TestCase):
    def test_it_stands_in_the_file(self):
        self.assertEqual(read_strictly.__module__, "figuretexts.reading")

    def test_nothing_is_changed_and_nothing_is_shared(self):
        for wish, custom in PAIRS[::5]:
            before = (dict(vars(wish)), dict(vars(custom)))
            text = written(Number(5), wish, custom)
            one, other = read_strictly(text, wish, custom), read_strictly(text, wish, custom)
            self.assertTrue(one == other and one is not other and one is not wish.step)
            self.assertEqual((vars(wish), vars(custom)), before)
        thing = ["5"]
        with self.assertRaises(NoRead):
            read_strictly(thing, Wish(), PLAIN)
        self.assertEqual(thing, ["5"])
