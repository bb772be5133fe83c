"""Ranges: written, and read strictly."""

import unittest
from fractions import Fraction
from itertools import product

from figuretexts.customs import Custom
from figuretexts.errors import NoFit, NoRead, Unsorted
from figuretexts.numbers import Number
from figuretexts.ranges import range_written, read_range
from figuretexts.wishes import Wish
from tests.apart import PAIRS, WISHES, body_by, meant_by, numbers_around, signs_by, stands_by, written_by
from tests.things import fraction, number, things

PLAIN = Custom()
WORDS = Custom(words=((3, "k"), (6, "M")))
UNIT = Wish(unit=("$ ", " m"))


def range_by(low, high, wish, custom):
    """The text of a range, by the rules made apart from the program."""
    texts = [written_by(exact, wish, custom) for exact in (low, high)]
    if texts[0] == texts[1]:
        return custom.about + texts[0]
    told = [stands_by(exact, wish, custom) for exact in (low, high)]
    if any(signs_by(shown, wish, custom) != ("", "") for shown, _ in told):
        return custom.between.join(texts)
    bodies = [body_by(shown, power, wish, custom) for shown, power in told]
    return wish.unit[0] + custom.between.join(bodies) + wish.unit[1]


class Ranges(unittest.TestCase):
    def told(self, low, high, wish, custom, text, means=None):
        """Hold that this is written of the two, and that the text is read as what is meant by them."""
        ends = number(Fraction(low)), number(Fraction(high))
        self.assertEqual(range_written(*ends, wish, custom), text)
        read = read_range(text, wish, custom)
        self.assertIs(read.__class__, tuple)
        self.assertEqual(len(read), 2)
        self.assertTrue(all(isinstance(end, Number) for end in read))
        told = tuple(fraction(end) for end in read)
        self.assertEqual(told, tuple(Fraction(end) for end in means or (low, high)), text)

    def refused(self, thing, wish, custom):
        with self.assertRaises(NoRead, msg=(repr(thing)[:200], vars(wish))) as caught:
            read_range(thing, wish, custom)
        self.assertIs(caught.exception.thing, thing)


class Written(Ranges):
    def test_two_numbers_written_alike(self):
        self.told("5", "5", Wish(), PLAIN, "@5")
        self.told("-5", "-5", Wish(), PLAIN, "@-5")
        self.told("0", "0", Wish(), PLAIN, "@0")
        self.told("5", "5", UNIT, PLAIN, "@$ 5 m")
        self.told("-5", "-5", UNIT, PLAIN, "@-$ 5 m")
        self.told("1.001", "1.002", Wish(), PLAIN, "@1", ("1", "1"))
        self.told("-0.001", "0.001", Wish(), PLAIN, "@0", ("0", "0"))
        self.told("-0.001", "0.001", Wish(signs="all"), PLAIN, "@0", ("0", "0"))
        self.told("4", "6", Wish(step=Number(5)), PLAIN, "@5", ("5", "5"))
        self.told("999960", "1000040", Wish(scaled=True, places=(1, 1)), WORDS, "@1.0M", ("1000000", "1000000"))
        self.told("5", "5", Wish(), Custom(about="ca"), "ca5")
        self.told("5", "5", Wish(signs="all"), PLAIN, "@+5")

    def test_without_signs_the_unit_stands_once(self):
        self.told("1", "2", Wish(), PLAIN, "1~2")
        self.told("1", "2", UNIT, PLAIN, "$ 1~2 m")
        self.told("0", "2", UNIT, PLAIN, "$ 0~2 m")
        self.told("1234.5", "5678", UNIT, PLAIN, "$ 1,234.5~5,678 m")
        self.told("1", "2", Wish(unit=("", " m")), PLAIN, "1~2 m")
        self.told("1", "2", Wish(unit=("$", "")), PLAIN, "$1~2")
        self.told("1000", "2000000", Wish(scaled=True, unit=("$", "")), WORDS, "$1k~2M")
        self.told("-0.001", "2", UNIT, PLAIN, "$ 0~2 m", ("0", "2"))
        self.told("1", "2", UNIT, Custom(between="to"), "$ 1to2 m")
        self.told("1", "2.5", Wish(places=(1, 1), unit=("a", "a")), PLAIN, "a1.0~2.5a")

    def test_with_signs_both_texts_stand_whole(self):
        self.told("-2", "-1", Wish(), PLAIN, "-2~-1")
        self.told("-2", "1", Wish(), PLAIN, "-2~1")
        self.told("-2", "1", UNIT, PLAIN, "-$ 2 m~$ 1 m")
        self.told("-2", "-1", UNIT, PLAIN, "-$ 2 m~-$ 1 m")
        self.told("-2", "0", UNIT, PLAIN, "-$ 2 m~$ 0 m")
        self.told("1", "2", UNIT.but(signs="all"), PLAIN, "+$ 1 m~+$ 2 m")
        self.told("0", "2", UNIT.but(signs="all"), PLAIN, "$ 0 m~+$ 2 m")
        self.told("-2", "2", UNIT.but(signs="all"), PLAIN, "-$ 2 m~+$ 2 m")
        self.told("-2", "0", UNIT.but(signs="all"), PLAIN, "-$ 2 m~$ 0 m")
        self.told("-2000", "1000000", Wish(scaled=True, unit=("", "!")), WORDS, "-2k!~1M!")
        brackets = Custom(minus=("(", ")"), plus=("", "+"), between="to")
        self.told("-2", "1", UNIT.but(signs="all"), Custom(minus=("(", ")"), plus=("", "+")), "($ 2 m)~$ 1 m+")
        self.told("-2", "-1", Wish(), brackets, "(2)to(1)")
        self.told("-5", "-0.001", UNIT, PLAIN, "-$ 5 m~$ 0 m", ("-5", "0"))

    def test_unsorted(self):
        for low, high in ((Number(2), Number(1)), (Number(0), Number(-1, 10 ** 12)), (Number(-1), Number(-2))):
            for wish in (Wish(), Wish(figures=1), UNIT, Wish(unit=("\n", "~"))):
                with self.assertRaises(Unsorted) as caught:
                    range_written(low, high, wish, PLAIN)
                self.assertEqual((caught.exception.low, caught.exception.high), (low, high))
        # Also where they are written alike.
        with self.assertRaises(Unsorted):
            range_written(Number(1), Number(9999, 10000), Wish(), PLAIN)

    def test_a_wish_that_does_not_fit(self):
        for low, high in ((Number(1), Number(2)), (Number(1), Number(1)), (Number(-1), Number(2))):
            for unit, sign in ((("~", ""), "~"), (("", "u@~"), "@"), (("u\n", ""), "\n"), (("", ".5"), ".")):
                with self.assertRaises(NoFit) as caught:
                    range_written(low, high, Wish(unit=unit), PLAIN)
                self.assertEqual(caught.exception.thing, sign)

    def test_held_against_the_rules_made_apart(self):
        numbers = numbers_around()
        for at, (wish, custom) in enumerate(PAIRS):
            for first in range(at % 60, len(numbers), 60):
                for second in (first, first + 1, first + 2, first + 7, len(numbers) - 1 - at % 50):
                    if first <= second < len(numbers):
                        low, high = numbers[first], numbers[second]
                        means = (meant_by(low, wish, custom), meant_by(high, wish, custom))
                        self.told(low, high, wish, custom, range_by(low, high, wish, custom), means)


class NoOthers(Ranges):
    def test_texts_that_are_written_of_no_range(self):
        for text in (
            "", "5", "~", "@", "5~", "~5", "@~", "@@5", "5@", "@5~", "@5~6", "5~@6", "@5~5", "5~5", "6~5", "5~-5",
            "-5~-6",
            "5~~6", "5~6~7", "~5~6", "5~6~", " 5~6", "5 ~6", "5~ 6", "5~6 ", "@ 5", "@5 ", "1~234~5", "5-6", "5-~6",
            "1~,234",
            "1,~234", "1,2~34", "5~6.0", "05~6", "5~06", "+5~6", "5~+6", "@+5", "@05", "@5.0", "@1234", "1234~5678",
            "-0~5",
            "@-0", "5\n~6", "5~6\n", "$5~6", "5,~6", "5k~6k", "0~-0", "5~6@", "~@", "-~5",
        ):
            self.refused(text, Wish(), PLAIN)

    def test_units_once_and_twice(self):
        for text in (
            "1~2", "$ 1 m~$ 2 m", "$ 1~$ 2 m", "$ 1 m~2 m", "$ 1~2", "1~2 m", "$ 1~ 2 m", "$ 1 ~2 m", "-$ 2~1 m",
            "-2~1 m",
            "$ -2~1 m", "-$ 2 m~1 m", "-$ 2~$ 1 m", "$ -2 m~$ 1 m", "@5", "@$ 5", "@5 m", "$ @5 m", "$ 5 m",
            "@$ 5 m~$ 6 m",
            "$ 5~5 m", "$ 6~5 m", "-$ 1 m~-$ 2 m", "$ 1 m~-$ 2 m", "-$ 1 m~-$ 1 m", "$ ~2 m", "$ 1~ m", "$ ~ m",
            "$ 1~2 m ",
        ):
            self.refused(text, UNIT, PLAIN)
        for text in ("$ 1~2 m", "+$ 2 m~+$ 1 m", "$ 1 m~+$ 2 m", "+$ 1 m~$ 2 m", "+$ 1 m~+$ 1 m", "+$ 0 m~+$ 1 m"):
            self.refused(text, UNIT.but(signs="all"), PLAIN)
        for text in ("a1aa2a", "a1a~a2a", "a1~2", "1~2a", "a~a", "a1~a2a", "a1a~2a"):
            self.refused(text, Wish(unit=("a", "a")), PLAIN)

    def test_ends_exchanged_and_about_ahead_of_unlike_ends(self):
        numbers = [Fraction(one) for one in ("-1234.5", "-1", "0", "0.05", "1", "999", "1234.5", "1000000")]
        for wish in (Wish(), UNIT, UNIT.but(signs="all"), Wish(scaled=True), Wish(figures=2)):
            for at, low in enumerate(numbers):
                for high in numbers[at + 1:]:
                    text = range_by(low, high, wish, WORDS)
                    swapped = range_by(high, low, wish, WORDS)
                    if "@" not in text:
                        read_range(text, wish, WORDS)
                        self.refused(swapped, wish, WORDS)
                        self.refused("@" + text, wish, WORDS)
                        for end in (low, high):
                            self.refused(written_by(end, wish, WORDS), wish, WORDS)
                            self.refused(written_by(end, wish, WORDS) + "~" + written_by(end, wish, WORDS), wish, WORDS)

    def test_between_within_one_number(self):
        for low, high in (("-1234.5", "1234.5"), ("1234.5", "5678.25"), ("5", "5")):
            text = range_by(Fraction(low), Fraction(high), UNIT, PLAIN)
            for at in range(len(text) + 1):
                self.refused(text[:at] + "~" + text[at:], UNIT, PLAIN)
                self.refused(text[:at] + "@" + text[at:], UNIT, PLAIN)
            one = written_by(Fraction(high), UNIT, PLAIN)
            for at in range(len(one) + 1):
                self.refused(one[:at] + "~" + one[at:], UNIT, PLAIN)

    def test_texts_of_several_signs_between_and_about(self):
        custom = Custom(between="~~", about="@@@")
        self.told("1", "2", Wish(), custom, "1~~2")
        self.told("1", "1", Wish(), custom, "@@@1")
        for text in ("1~2", "1~~~2", "1~~~~2", "@1", "@@1", "@@@@1", "1@@@", "~~1~~2", "1~ ~2", "@@@1~~2", "1~~1"):
            self.refused(text, Wish(), custom)
        custom = Custom(between="tot", about="aba")
        self.told("-2", "1", UNIT, custom, "-$ 2 m" + "tot" + "$ 1 m")
        for text in ("1to2", "1tott2", "1totot2", "1otot2", "ab1", "abaaba1", "ababa1"):
            self.refused(text, Wish(), custom)

    def test_a_sign_left_out_put_in_twice_exchanged(self):
        for low, high, wish, custom in (
            ("1234.5", "5678", UNIT, PLAIN), ("-12", "0.5", UNIT, PLAIN), ("5", "5", UNIT, PLAIN),
            ("-1000", "1000000", Wish(scaled=True, signs="all"), WORDS), ("1", "12", Wish(figures=2),
            Custom(sizes=(1,))),
        ):
            text = range_by(Fraction(low), Fraction(high), wish, custom)
            for at in range(len(text) + 1):
                for sign in " ~@-+,.kM$m\n":
                    for other in (text[:at] + sign + text[at:], text[:at] + sign + text[at + 1:]):
                        if other != text and not self.is_written(other, wish, custom):
                            self.refused(other, wish, custom)

    def is_written(self, text, wish, custom):
        """Whether the text is that of a range, of ends that are written with the signs beside between and about."""
        ends = text.replace(custom.about, custom.between).split(custom.between)
        found = []
        for end in ends:
            figures = end.replace(wish.unit[0], "").replace(wish.unit[1], "")
            power = {word: power for power, word in custom.words}.get(figures[-1:], 0)
            figures = figures.strip("kM+-").replace(",", "")
            if figures.replace(".", "").isdigit() and figures.count(".") < 2:
                exact = Fraction("0" + figures + "0" * ("." in figures)) * 10 ** power
                found.append({exact, -exact})
            else:
                found.append(set())
        pairs = product(found[0] or found[1], found[1]) if len(found) == 2 else ()
        return any(low <= high and range_by(low, high, wish, custom) == text for low, high in pairs)

    def test_of_all_short_texts_those_that_are_written_and_no_others(self):
        wish, custom = Wish(places=(0, 0), unit=("", "m")), Custom(between="~", about="@")
        right = {}
        for low in range(-1111, 1112):
            for high in {low, low + 1, 0, 1, -1, 10, 11, -10, -11, 100, 101, 110, 111, 1110, 1111}:
                if low <= high:
                    right[range_by(Fraction(low), Fraction(high), wish, custom)] = (low, high)
        for many in range(6):
            for text in map("".join, product("01~@-m", repeat=many)):
                if text in right:
                    self.told(*right[text], wish, custom, text)
                else:
                    self.refused(text, wish, custom)


class OfAnything(Ranges):
    def test_things_that_are_no_texts(self):
        for thing in things():
            for wish in (Wish(), Wish(figures=3), UNIT, Wish(scaled=True)):
                self.refused(thing, wish, PLAIN)
        for thing in (5, Number(5), ["1~2"], ("1", "2"), (Number(1), Number(2)), {"1~2": 1}, None, True):
            self.refused(thing, Wish(), PLAIN)

    def test_no_fit_goes_first(self):
        for thing in things() + ["1~2", "2~1", "@5", 5]:
            for wish in WISHES[::4]:
                with self.assertRaises(NoFit) as caught:
                    read_range(thing, wish.but(unit=("", "u~.")), PLAIN)
                self.assertEqual(caught.exception.thing, "~")

    def test_texts_of_four_thousand_signs(self):
        for text in (
            "~" * 4000, "@" * 4000, "1~" * 2000, "@1" * 2000, "1" * 4000, "1" * 1999 + "~" + "2" * 2000,
            "@" + "0" * 3999,
            "-" * 4000, "0." + "1" * 1000 + "~1." + "1" * 1000, " " * 4000, "1," * 2000,
        ):
            for wish in (Wish(), UNIT, Wish(figures=12), Wish(scaled=True)):
                self.refused(text, wish, WORDS)

    def test_great_ends(self):
        plain = Custom(group="", words=((6, "k"),))
        one, other = 10 ** 1900 + 1, 10 ** 1900 + 2
        self.told(one, other, Wish(), plain, f"{one}~{other}")
        self.told(-other, -one, Wish(), plain, f"-{other}~-{one}")
        self.told(-other, one, Wish(unit=("$", "!")), plain, f"-${other}!~${one}!")
        self.told(one, one, Wish(places=(2, 2)), plain, f"@{one}.00")
        about = Fraction(10 ** 1900)
        self.told(one, other, Wish(figures=12), plain, "@1" + "0" * 1900, (about, about))
        self.told(one, 2 * one, Wish(figures=1, scaled=True), plain, "1{0}k~2{0}k".format("0" * 1894), (about,
        2 * about))
        low, high = Number(10 ** 4199 + 7), Number(10 ** 4199 + 8)
        text = range_written(low, high, UNIT, Custom(sizes=(1,)))
        self.assertGreater(len(text), 16000)
        self.assertEqual(read_range(text, UNIT, Custom(sizes=(1,))), (low, high))
        low, high = Number(1, 10 ** 1950), Number(2, 10 ** 1950)
        text = range_written(low, high, Wish(figures=1), PLAIN)
        self.assertEqual(text, "0." + "0" * 1949 + "1~0." + "0" * 1949 + "2")
        self.assertEqual(read_range(text, Wish(figures=1), PLAIN), (low, high))


class Module(unittest.TestCase):
    def test_both_stand_in_the_file(self):
        for function in (range_written, read_range):
            self.assertEqual(function.__module__, "figuretexts.ranges")

    def test_nothing_is_changed_and_nothing_is_shared(self):
        for wish, custom in PAIRS[::5]:
            low, high = Number(5, 3), Number(7)
            before = (dict(vars(wish)), dict(vars(custom)))
            text = range_written(low, high, wish, custom)
            self.assertEqual(range_written(low, high, wish, custom), text)
            self.assertEqual((str(low), str(high)), ("5/3", "7"))
            self.assertEqual((vars(wish), vars(custom)), before)
            one, other = read_range(text, wish, custom), read_range(text, wish, custom)
            self.assertEqual(one, other)
            self.assertEqual(len({id(end) for end in one + other}), 4)
        alike = read_range("@5", Wish(), PLAIN)
        self.assertIsNot(alike[0], alike[1])
