"""Columns: written, and read strictly."""

import unittest
from fractions import Fraction
from itertools import product

from figuretexts.columns import column, read_column
from figuretexts.customs import Custom
from figuretexts.errors import FigureError, NoFit, NoRead
from figuretexts.meaning import meant
from figuretexts.numbers import Number
from figuretexts.wishes import Wish
from figuretexts.writing import written
from tests.apart import PAIRS, body_by, meant_by, numbers_around, signs_by, stands_by, written_by
from tests.things import fraction, number, things

PLAIN = Custom()
WORDS = Custom(words=((3, "k"), (6, "mio")))
BEHIND = Custom(minus=("(", ")"), plus=("", "+"))
BLANKS = Custom(group=" ", point=",")


def halves_by(exact, wish, custom):
    """The text, cut behind its figure of the ones."""
    shown, power = stands_by(exact, wish, custom)
    ahead, behind = signs_by(shown, wish, custom)
    body = body_by(shown, power, wish, custom)
    word = {0: "", **dict(custom.words)}[power]
    figures = body[:len(body) - len(word)]
    ones, point, rest = figures.partition(custom.point)
    return ahead + wish.unit[0] + ones, point + rest + word + wish.unit[1] + behind


def column_by(exacts, wish, custom):
    halves = [halves_by(exact, wish, custom) for exact in exacts]
    left = max(len(ahead) for ahead, _ in halves)
    right = max(len(behind) for _, behind in halves)
    return tuple(ahead.rjust(left) + behind.ljust(right) for ahead, behind in halves)


class Columns(unittest.TestCase):
    def told(self, exacts, wish, custom, texts):
        """Hold that this is told of the numbers, and read back as what is meant by them."""
        numbers = tuple(number(Fraction(exact)) for exact in exacts)
        told = column(numbers, wish, custom)
        self.assertIs(told.__class__, tuple)
        self.assertEqual(told, tuple(texts))
        read = read_column(told, wish, custom)
        self.assertIs(read.__class__, tuple)
        self.assertTrue(all(isinstance(one, Number) for one in read))
        self.assertEqual(
            [fraction(one) for one in read], [meant_by(Fraction(exact), wish, custom) for exact in exacts], texts)

    def refused(self, thing, wish, custom):
        with self.assertRaises(NoRead, msg=repr(thing)[:200]) as caught:
            read_column(thing, wish, custom)
        self.assertIs(caught.exception.thing, thing)


class Told(Columns):
    def test_one_number_has_no_blanks(self):
        self.told(["0"], Wish(), PLAIN, ["0"])
        self.told(["-1234.5"], Wish(), PLAIN, ["-1,234.5"])
        self.told(["-5"], Wish(unit=("$ ", " m")), BEHIND, ["($ 5 m)"])
        self.told(["12345"], Wish(), BLANKS, ["12 345"])

    def test_without_points(self):
        self.told(["1", "10", "100"], Wish(), PLAIN, ["  1", " 10", "100"])
        self.told(["1000", "1", "-10"], Wish(), PLAIN, ["1,000", "    1", "  -10"])
        self.told(["-1", "1"], Wish(), PLAIN, ["-1", " 1"])
        self.told(["7", "7"], Wish(), PLAIN, ["7", "7"])
        self.told(["-0.001", "5"], Wish(), PLAIN, ["0", "5"])

    def test_with_points(self):
        self.told(["1", "1.5", "10.25"], Wish(), PLAIN, [" 1   ", " 1.5 ", "10.25"])
        self.told(["0.5", "-0.25"], Wish(), PLAIN, [" 0.5 ", "-0.25"])
        self.told(["1", "22"], Wish(places=(2, 2)), PLAIN, [" 1.00", "22.00"])
        self.told(["1000.5", "2"], Wish(), PLAIN, ["1,000.5", "    2  "])
        self.told(["1234", "0.012", "5"], Wish(figures=3), PLAIN, ["1,230     ", "    0.0120", "    5.00  "])
        self.told(["1234", "5"], Wish(figures=3), PLAIN, ["1,230   ", "    5.00"])

    def test_with_words(self):
        self.told(["5", "5000", "5000000"], Wish(scaled=True), WORDS, ["5   ", "5k  ", "5mio"])
        self.told(["5.25", "-15500", "1"], Wish(scaled=True), WORDS, ["  5.25", "-15.5k", "  1   "])
        self.told(["999960", "1"], Wish(scaled=True, places=(1, 1)), WORDS, ["1.0mio", "1.0   "])

    def test_with_signs_behind(self):
        self.told(["-1", "22"], Wish(), BEHIND, ["(1)", "22 "])
        self.told(["-1", "22.5"], Wish(signs="all"), BEHIND, ["(1)  ", "22.5+"])
        self.told(["1", "-100", "0"], Wish(signs="all"), Custom(minus=("", "--")), [" +1  ", "100--", "  0  "])

    def test_with_units(self):
        unit = Wish(unit=("$ ", " m"))
        self.told(["1", "-22.5"], unit, PLAIN, ["  $ 1 m  ", "-$ 22.5 m"])
        self.told(["-1", "22"], Wish(unit=("", " EUR")), PLAIN, ["-1 EUR", "22 EUR"])
        self.told(["0.5", "1"], Wish(unit=("", "!")), PLAIN, ["0.5!", "1!  "])

    def test_with_other_figures_and_groups(self):
        letters = Custom(figures="ABCDEFGHIJ", point="1", group="0", sizes=(2, 1))
        self.told(["12345.5", "7"], Wish(), letters, ["B0C0D0EF1F", "       H  "])
        self.told(["1234567", "1"], Wish(), BLANKS, ["1 234 567", "        1"])
        self.told(["1234567", "-1234.5"], Wish(), BLANKS, ["1 234 567  ", "   -1 234,5"])
        self.told(["1234567", "1"], Wish(grouped=False), PLAIN, ["1234567", "      1"])

    def test_twelve_numbers(self):
        exacts = [(-10) ** power for power in range(12)]
        texts = column(tuple(number(exact) for exact in exacts), Wish(), PLAIN)
        self.assertEqual(len(texts), 12)
        self.assertEqual([text.strip(" ") for text in texts], [f"{exact:,}" for exact in exacts])
        self.assertEqual({len(text) for text in texts}, {len("-100,000,000,000")})
        self.told(exacts, Wish(), PLAIN, column_by([Fraction(exact) for exact in exacts], Wish(), PLAIN))

    def test_a_number_of_three_hundred_figures(self):
        great = 10 ** 299 + 7
        shown = f"{great:,}"
        self.told([str(great), "-1"], Wish(), PLAIN, [shown, "-1".rjust(len(shown))])
        self.told(["0.5", str(-great)], Wish(), PLAIN, ["0.5".rjust(len(shown) + 3), f"-{shown}  "])
        self.told([str(10 ** 4199 + 7), "1"], Wish(grouped=False), PLAIN, [str(10 ** 4199 + 7), "1".rjust(4200)])

    def test_held_against_the_rules_made_apart(self):
        numbers = numbers_around()
        for at, (wish, custom) in enumerate(PAIRS):
            for many in (1, 2, 3, 5, 12):
                exacts = [numbers[(at * 131 + many * 17 + k * 211) % len(numbers)] for k in range(many)]
                self.told(exacts, wish, custom, column_by(exacts, wish, custom))

    def test_the_ones_at_one_place_and_no_blank_too_many(self):
        numbers = numbers_around()
        for at, (wish, custom) in enumerate(PAIRS):
            exacts = numbers[at % 50::97]
            texts = column(tuple(number(exact) for exact in exacts), wish, custom)
            self.assertEqual(len({len(text) for text in texts}), 1)
            places = set()
            for text, exact in zip(texts, exacts):
                self.assertEqual(text.strip(" "), written_by(exact, wish, custom))
                head = text.partition(custom.point)[0]
                places.add(max(place for place, sign in enumerate(head) if sign in custom.figures))
            self.assertEqual(len(places), 1)
            self.assertTrue(any(not text.startswith(" ") for text in texts))
            self.assertTrue(any(not text.endswith(" ") for text in texts))

    def test_nothing_that_is_handed_in_is_changed_and_the_same_is_told(self):
        numbers, wish = (Number(-7, 2), Number(1000)), Wish(step=Number(1, 2))
        first = column(numbers, wish, PLAIN)
        self.assertEqual(first, column(numbers, wish, PLAIN))
        self.assertEqual([str(one) for one in numbers], ["-7/2", "1000"])
        read = read_column(first, wish, PLAIN)
        self.assertTrue(all(one is not other for one in read for other in numbers))
        one, other = read_column(("5", "5"), wish, PLAIN)
        self.assertIsNot(one, other)


class Refused(Columns):
    def test_blanks_more_and_less(self):
        wish = Wish()
        texts = ("  1   ", " -1.5 ", "100.25")
        self.assertEqual(column((Number(1), Number(-3, 2), Number(401, 4)), wish, PLAIN), texts)
        self.assertEqual(read_column(texts, wish, PLAIN), (Number(1), Number(-3, 2), Number(401, 4)))
        self.refused(tuple(" " + text for text in texts), wish, PLAIN)
        self.refused(tuple(text + " " for text in texts), wish, PLAIN)
        self.refused(tuple(" " + text + " " for text in texts), wish, PLAIN)
        self.refused(tuple(text.strip(" ") for text in texts), wish, PLAIN)
        for at, text in enumerate(texts):
            for other in (
                " " + text, text + " ", text[1:], text[:-1], text.strip(" "), " " + text[:-1], text[1:] + " ",
                text.replace("1", " 1", 1), text.replace("1", "1 ", 1), "  " + text.strip(" ") + "  ", "", " ", "      ",
                text + "\n", "\n" + text, text.replace(" ", "\n", 1) if " " in text else "\n", text + text,
            ):
                if other != text:
                    self.refused(texts[:at] + (other,) + texts[at + 1:], wish, PLAIN)
        for thing in (("1 ",), (" 1",), (" 1", " 1"), ("1 ", "1 "), ("1", " 1"), ("1", "1 "), ("10", "1"), ("10", "1 ")):
            self.refused(thing, wish, PLAIN)

    def test_texts_left_out_twice_and_exchanged(self):
        wish = Wish()
        texts = ("  1   ", " -1.5 ", "100.25")
        one, two, three = Number(1), Number(-3, 2), Number(401, 4)
        self.assertEqual(read_column(texts[1:], wish, PLAIN), (two, three))
        self.assertEqual(read_column((texts[2],), wish, PLAIN), (three,))
        self.assertEqual(read_column(texts[::2], wish, PLAIN), (one, three))
        self.assertEqual(read_column(texts + texts, wish, PLAIN), (one, two, three) * 2)
        self.assertEqual(read_column(texts[::-1], wish, PLAIN), (three, two, one))
        self.refused(texts[:2], wish, PLAIN)
        self.refused(texts[:1], wish, PLAIN)
        self.refused((texts[0], texts[0]), wish, PLAIN)
        self.refused((texts[1], texts[0], texts[1]), wish, PLAIN)

    def test_texts_that_are_not_written_so(self):
        for thing in (
            ("1000",), ("01",), ("+1",), ("1.",), (".5",), ("1.50",), ("1.255",), ("-0",), ("-",), ("k",), ("1k",),
            ("1,00",), ("1 000",), ("$1",), ("1~2",), ("@1",), ("1", "x"), ("1", "1.0"), ("x", "1"), ("1", ""), ("",),
        ):
            self.refused(thing, Wish(), PLAIN)
        self.refused(("1", "2"), Wish(step=Number(2)), PLAIN)
        self.refused(("$1", "$2"), Wish(unit=("$ ", "")), PLAIN)
        self.refused(("1 234", "1,234"), Wish(), BLANKS)
        self.refused(("1  234",), Wish(), BLANKS)

    def test_a_blank_as_group_sign(self):
        texts = column((Number(1234), Number(1)), Wish(), BLANKS)
        self.assertEqual(texts, ("1 234", "    1"))
        self.refused(("1 234", "1    "), Wish(), BLANKS)
        self.refused(("1 234", "  1"), Wish(), BLANKS)
        self.refused((" 1 234", "     1"), Wish(), BLANKS)
        with self.assertRaises(NoFit) as caught:
            read_column(texts, Wish(unit=("", " m")), BLANKS)
        self.assertEqual(caught.exception.thing, " ")

    def test_all_pairs_of_short_texts(self):
        signs = " 1-.5"
        texts = ["".join(row) for many in range(4) for row in product(signs, repeat=many)]
        exacts = [Fraction(many, 10) for many in range(-5555, 5556)]
        wish = Wish(places=(0, 1))
        shown = {written(number(exact), wish, PLAIN): exact for exact in exacts}
        fitting = [exact for text, exact in shown.items() if len(text) <= 3 and set(text) <= set(signs)]
        known = {column_by(pair, wish, PLAIN): pair for pair in product(fitting, repeat=2)}
        held = 0
        for pair in product(texts, repeat=2):
            if pair in known:
                held += 1
                told = read_column(pair, wish, PLAIN)
                self.assertEqual(tuple(fraction(one) for one in told), known[pair])
            else:
                with self.assertRaises(NoRead):
                    read_column(pair, wish, PLAIN)
        self.assertGreater(held, 50)

    def test_things_that_are_no_tuples_of_texts(self):
        for thing in (
            ["1"], ["1", "2"], "1", "", (), [], None, True, 1, Number(1), (1,), (Number(1),), ("1", 1), (1, "1"),
            ("1", Number(1)), ("1", None), (None,), (None, "1"), (("1",),), ("1", ("1",)), (["1"], "1"), {"1": "1"},
            ("1", True), ((),), ("1", ()), ("1", ["1"]), {}, (("1", "2"),), ("1", "2", ["3"]),
        ):
            self.refused(thing, Wish(), PLAIN)

    def test_things_of_every_kind(self):
        for wish, custom in ((Wish(), PLAIN), (Wish(figures=3, scaled=True), WORDS), (Wish(unit=("a", "b")), BLANKS)):
            for thing in things():
                self.refused(thing, wish, custom)
                self.refused((thing,), wish, custom)
        self.refused(("1",) * 3000 + ("2 ",), Wish(), PLAIN)
        self.assertEqual(read_column(("1",) * 3000, Wish(), PLAIN), (Number(1),) * 3000)

    def test_no_fit_goes_ahead_of_no_read(self):
        clash = Wish(unit=("x", "y."))
        for thing in things() + [("1",), ("x1y.",), ["1"], "1", ()]:
            with self.assertRaises(FigureError) as caught:
                read_column(thing, clash, PLAIN)
            self.assertIs(caught.exception.__class__, NoFit)
            self.assertEqual(caught.exception.thing, ".")
        for numbers in ((Number(1),), (Number(1), Number(2))):
            with self.assertRaises(NoFit) as caught:
                column(numbers, clash, PLAIN)
            self.assertEqual(caught.exception.thing, ".")
        with self.assertRaises(NoFit) as caught:
            column((Number(0),), Wish(unit=("", "\n")), PLAIN)
        self.assertEqual(caught.exception.thing, "\n")

    def test_what_is_read_is_what_is_meant(self):
        for wish in (Wish(places=(0, 0)), Wish(figures=2), Wish(step=Number(5)), Wish(scaled=True, places=(0, 0))):
            numbers = (Number(1049), Number(-7, 3), Number(999999), Number(0))
            read = read_column(column(numbers, wish, WORDS), wish, WORDS)
            self.assertEqual(read, tuple(meant(one, wish, WORDS) for one in numbers))
