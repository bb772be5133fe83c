"""Texts read kindly: what is passed over is told; by several customs."""

import re
import unittest
from fractions import Fraction
from itertools import product

from figuretexts.customs import Custom
from figuretexts.errors import NoRead
from figuretexts.kindly import read_by_all, read_kindly
from figuretexts.meaning import meant
from figuretexts.numbers import Number
from figuretexts.wishes import Wish
from figuretexts.writing import written
from tests.apart import CUSTOMS, PAIRS, grouped_by, numbers_around
from tests.things import fraction, number, things

PLAIN = Custom()
BLANK = Custom(group=" ")
WORDS = Custom(words=((3, "k"), (6, "m"), (9, "mk")))


def kindly_by(text, custom):
    """(number, passed), or None, by patterns made apart from the program; "_" stands for a blank as group sign."""
    group = custom.group
    figure = "[" + re.escape(custom.figures) + "]"
    if group == " ":
        head, dot, tail = text.partition(custom.point)
        group = "_"
        text = re.sub(rf"(?<={figure}) (?= *{figure})", group, head) + dot + tail
    places = [place for place, sign in enumerate(text) if sign != " "]
    signs = text.replace(" ", "")
    words = "|".join(re.escape(word) for _, word in custom.words)
    between = re.escape(group) + "?" if group else ""
    body = rf"({figure}(?:{between}{figure})*)(?:{re.escape(custom.point)}({figure}+))?({words})?"
    for kind, (ahead, behind) in (("minus", custom.minus), ("plus", custom.plus), ("none", ("", ""))):
        found = re.fullmatch(re.escape(ahead) + body + re.escape(behind), signs)
        if found:
            passed = [(place, "blank") for place, sign in enumerate(text) if sign == " "]
            if kind == "plus":
                passed.append((places[0 if ahead else len(signs) - len(behind)], "plus"))
            figures = [at for at in range(*found.span(1)) if signs[at] != group]
            wanted, count = set(), 0
            for sign in grouped_by("x" * len(figures), custom.but(group=";") if group else custom):
                wanted |= {count} if sign == ";" else set()
                count += sign == "x"
            for count, at in enumerate(figures):
                parted = count > 0 and figures[count - 1] < at - 1
                if parted and count not in wanted:
                    passed.append((places[at - 1], "group"))
                if count in wanted and not parted:
                    passed.append((places[at], "lacking"))
            for count, at in enumerate(figures[:-1]):
                if all(signs[other] == custom.figures[0] for other in figures[:count + 1]):
                    passed.append((places[at], "nought"))
            told = "".join(str(custom.figures.index(signs[at])) for at in figures)
            behind_it = "".join(str(custom.figures.index(sign)) for sign in found.group(2) or "")
            exact = int(told + behind_it) * Fraction(10) ** (
                {word: power for power, word in custom.words}.get(found.group(3), 0) - len(behind_it)
            )
            return (-exact if kind == "minus" else exact), tuple(sorted(passed))
    return None


class Reading(unittest.TestCase):
    def told(self, text, custom, exact, passed=()):
        what = read_kindly(text, custom)
        self.assertIs(what.__class__, tuple)
        self.assertEqual(len(what), 2)
        self.assertIsInstance(what[0], Number)
        self.assertEqual((fraction(what[0]), what[1]), (Fraction(exact), tuple(passed)), text)
        self.assertIs(what[1].__class__, tuple)
        self.assertTrue(all(part.__class__ is tuple for part in what[1]))

    def refused(self, thing, custom):
        with self.assertRaises(NoRead, msg=repr(thing)[:200]) as caught:
            read_kindly(thing, custom)
        self.assertIs(caught.exception.thing, thing)

    def held_apart(self, text, custom):
        apart = kindly_by(text, custom)
        if apart is None:
            self.refused(text, custom)
        else:
            self.told(text, custom, *apart)


class Kindly(Reading):
    def test_nothing_passed_over(self):
        for text, exact in (
            ("0", "0"), ("5", "5"), ("-5", "-5"), ("1,234.5", "1234.5"), ("-0", "0"), ("0.05", "0.05"), ("5.0", "5"),
            ("5.000", "5"), ("123", "123"), ("1,234,567", "1234567"), ("5k", "5000"), ("-1,234.5k", "-1234500"),
            ("5m", "5000000"), ("5mk", "5000000000"), ("0.00001", "0.00001"), ("-0.0", "0"), ("0k", "0"), ("0.5k",
            "500"),
        ):
            self.told(text, WORDS, exact)
        self.told("1234", Custom(group=""), "1234")
        self.told("1234", Custom(least=2), "1234")

    def test_blanks_anywhere(self):
        self.told(" 5", PLAIN, "5", [(0, "blank")])
        self.told("5 ", PLAIN, "5", [(1, "blank")])
        self.told("  5  ", PLAIN, "5", [(0, "blank"), (1, "blank"), (3, "blank"), (4, "blank")])
        self.told("- 5", PLAIN, "-5", [(1, "blank")])
        self.told("1 ,234", PLAIN, "1234", [(1, "blank")])
        self.told("1, 234", PLAIN, "1234", [(2, "blank")])
        self.told("12 3", PLAIN, "123", [(2, "blank")])
        self.told("5 . 2 5", PLAIN, "5.25", [(1, "blank"), (3, "blank"), (5, "blank")])
        self.told("5 m k", WORDS, "5000000000", [(1, "blank"), (3, "blank")])
        self.told("5m k", WORDS, "5000000000", [(2, "blank")])
        wide = Custom(minus=("(-", "-)"), plus=("", "pp"))
        self.told("( - 5 -  )", wide, "-5", [(1, "blank"), (3, "blank"), (5, "blank"), (7, "blank"), (8, "blank")])
        self.told("5p p", wide, "5", [(1, "plus"), (2, "blank")])
        self.told("5 p p ", wide, "5", [(1, "blank"), (2, "plus"), (3, "blank"), (5, "blank")])

    def test_group_signs_that_lack(self):
        self.told("1234", PLAIN, "1234", [(1, "lacking")])
        self.told("-1234567.5", PLAIN, "-1234567.5", [(2, "lacking"), (5, "lacking")])
        self.told("1234,567", PLAIN, "1234567", [(1, "lacking")])
        self.told("1,234567", PLAIN, "1234567", [(5, "lacking")])
        self.told("12 34", PLAIN, "1234", [(1, "lacking"), (2, "blank")])
        self.told("1 234", PLAIN, "1234", [(1, "blank"), (2, "lacking")])
        self.told("1234k", WORDS, "1234000", [(1, "lacking")])
        self.told("12345678", Custom(sizes=(3, 2)), "12345678", [(1, "lacking"), (3, "lacking"), (5, "lacking")])
        self.told("123", Custom(sizes=(1,)), "123", [(1, "lacking"), (2, "lacking")])
        self.told("1234", Custom(least=2), "1234")
        self.told("12345", Custom(least=2), "12345", [(2, "lacking")])
        self.told("1234567", Custom(group=""), "1234567")

    def test_group_signs_in_wrong_places(self):
        self.told("1,2", PLAIN, "12", [(1, "group")])
        self.told("12,34", PLAIN, "1234", [(1, "lacking"), (2, "group")])
        self.told("1,2,3,4", PLAIN, "1234", [(3, "group"), (5, "group")])
        self.told("1,234", Custom(least=2), "1234", [(1, "group")])
        self.told("-1,23", PLAIN, "-123", [(2, "group")])
        self.told("1,234,56", PLAIN, "123456", [(1, "group"), (4, "lacking"), (5, "group")])
        self.told("1 , 2", PLAIN, "12", [(1, "blank"), (2, "group"), (3, "blank")])
        self.told("1,23,456", Custom(sizes=(3, 2)), "123456")
        self.told("123,456", Custom(sizes=(3, 2)), "123456", [(1, "lacking")])
        self.told("1,2.5", PLAIN, "12.5", [(1, "group")])

    def test_two_group_signs_together_and_at_ends(self):
        for text in (
            "1,,234", "1, ,234", ",234", "1,234,", "1,234,.5", "1.234,5", "1.2,3", "-,1", ",", "1,k", "1.,5", "5,-",
            " , ",
            "1,,", ",1,234",
        ):
            self.refused(text, WORDS)
            self.held_apart(text, PLAIN)
        self.refused("1,234", Custom(group=""))
        self.refused("1'234", PLAIN)

    def test_noughts_ahead(self):
        self.told("05", PLAIN, "5", [(0, "nought")])
        self.told("00", PLAIN, "0", [(0, "nought")])
        self.told("000", PLAIN, "0", [(0, "nought"), (1, "nought")])
        self.told("0005", Custom(group=""), "5", [(0, "nought"), (1, "nought"), (2, "nought")])
        self.told("0005", PLAIN, "5", [(0, "nought"), (1, "lacking"), (1, "nought"), (2, "nought")])
        self.told("0,005", PLAIN, "5", [(0, "nought"), (2, "nought"), (3, "nought")])
        self.told("0.5", PLAIN, "0.5")
        self.told("00.5", PLAIN, "0.5", [(0, "nought")])
        self.told("-007.00", PLAIN, "-7", [(1, "nought"), (2, "nought")])
        self.told("0 0", PLAIN, "0", [(0, "nought"), (1, "blank")])
        self.told("0,0", PLAIN, "0", [(0, "nought"), (1, "group")])
        self.told("010", PLAIN, "10", [(0, "nought")])
        self.told("100", PLAIN, "100")
        self.told("00k", WORDS, "0", [(0, "nought")])
        self.told("AAB", Custom(figures="ABCDEFGHIJ"), "1", [(0, "nought"), (1, "nought")])
        self.told("990", Custom(figures="9876543210"), "9", [(0, "nought"), (1, "nought")])

    def test_a_plus(self):
        self.told("+5", PLAIN, "5", [(0, "plus")])
        self.told(" +5", PLAIN, "5", [(0, "blank"), (1, "plus")])
        self.told("+0", PLAIN, "0", [(0, "plus")])
        self.told("5+", Custom(plus=("", "+")), "5", [(1, "plus")])
        self.told("5+ ++", Custom(plus=("", "+++")), "5", [(1, "plus"), (2, "blank")])
        self.told("5 +", Custom(plus=("", "+")), "5", [(1, "blank"), (2, "plus")])
        self.told("+5+", Custom(plus=("+", "+")), "5", [(0, "plus")])
        self.told("[5]", Custom(plus=("[", "]")), "5", [(0, "plus")])
        self.told("+ +5", Custom(plus=("++", "")), "5", [(0, "plus"), (1, "blank")])
        self.told("5kp", Custom(plus=("", "p"), words=((3, "k"),)), "5000", [(2, "plus")])

    def test_signs_that_do_not_go_together(self):
        for text in ("-+5", "+-5", "--5", "++5", "5-", "5+", "-5-", "+5+", "-", "+", "- -5", "5-5", "5+5"):
            self.refused(text, PLAIN)
        both = Custom(minus=("(", ")"), plus=("[", "]"))
        self.told("(5)", both, "-5")
        for text in ("(5", "5)", "(5]", "[5)", "[5", "5]", "()", "[]", "((5))", "([5])", "(-5)", "-5", ")5("):
            self.refused(text, both)
        around = Custom(minus=("-", "-"), plus=("", "+"))
        self.told("-5-", around, "-5")
        for text in ("-5", "5-", "-", "--", "-5+", "-5-+", "+5", "- -"):
            self.refused(text, around)

    def test_points_and_words(self):
        for text in (
            "5.", ".5", ".", "5..5", "5.5.5", "-.5", "5.k", "k", "-k", "5kk", "5km", "5mkm", "k5", "5k5", "5k.5", "5K",
            "5kmk",
            "", " ", "   ", "5 5k5", "5~6", "@5", "~", "$5", "5$", "5a", "\n", "5\n", "\n5", "5\t", "1\n234", "\u0665",
            "5\u00a0",
        ):
            self.refused(text, WORDS)
        for text in ("5k", "5m"):
            self.refused(text, PLAIN)
        like = Custom(words=((1, "a"), (2, "aa"), (3, "ab"), (4, "aab"), (30, "b")))
        for text, exact in (("5a", 50), ("5aa", 500), ("5ab", 5000), ("5aab", 50000), ("5b", 5 * 10 ** 30), ("5", 5)):
            self.told(text, like, exact)
        self.told("5a a b", like, 50000, [(2, "blank"), (4, "blank")])
        self.refused("5aaa", like)

    def test_a_blank_as_group_sign(self):
        self.told("1 234", BLANK, "1234")
        self.told("1  234", BLANK, "1234", [(2, "blank")])
        self.told("1   234", BLANK, "1234", [(2, "blank"), (3, "blank")])
        self.told("1234", BLANK, "1234", [(1, "lacking")])
        self.told("12 34", BLANK, "1234", [(1, "lacking"), (2, "group")])
        self.told("1  2", BLANK, "12", [(1, "group"), (2, "blank")])
        self.told(" 1 234 ", BLANK, "1234", [(0, "blank"), (6, "blank")])
        self.told("1 234 .5", BLANK, "1234.5", [(5, "blank")])
        self.told("1 234. 5", BLANK, "1234.5", [(6, "blank")])
        self.told("1.5 5", BLANK, "1.55", [(3, "blank")])
        self.told("1 2.5 5 5", BLANK, "12.555", [(1, "group"), (5, "blank"), (7, "blank")])
        self.told("- 1 234", BLANK, "-1234", [(1, "blank")])
        self.told("+ 1 234", BLANK, "1234", [(0, "plus"), (1, "blank")])
        self.told("1 234 k", BLANK.but(words=((3, "k"),)), "1234000", [(5, "blank")])
        self.told("0 005", BLANK, "5", [(0, "nought"), (2, "nought"), (3, "nought")])
        self.told("1 2 3", BLANK, "123", [(1, "group"), (3, "group")])
        self.told("1 2 3", BLANK.but(sizes=(1,)), "123")
        self.told("1 234-", BLANK.but(minus=("", "-")), "-1234")
        self.told("1 234 -", BLANK.but(minus=("", "-")), "-1234", [(5, "blank")])
        for text in ("1,234", " ", "1 k", ". 5", "1 . ", "1 2k3 4", "1 2 .", "- -1 2"):
            self.refused(text, BLANK)

    def test_places_rise(self):
        text = " + 00 12,34 5.5 0 k "
        what = read_kindly(text, WORDS)
        self.assertEqual(what, (Number(12345500), (
            (0, "blank"), (1, "plus"), (2, "blank"), (3, "nought"), (4, "lacking"), (4, "nought"), (5, "blank"),
            (11, "blank"), (15, "blank"), (17, "blank"), (19, "blank"),
        )))
        self.assertEqual(list(what[1]), sorted(what[1]))

    def test_what_is_written_is_read_and_only_a_plus_passed_over(self):
        numbers = numbers_around()
        for at, (wish, custom) in enumerate(PAIRS):
            if wish.unit == ("", "") and wish.grouped:
                for exact in numbers[at % 31::31]:
                    text = written(number(exact), wish, custom)
                    told = meant(number(exact), wish, custom)
                    what, passed = read_kindly(text, custom)
                    self.assertEqual(what, told, text)
                    self.assertEqual([kind for _, kind in passed], ["plus"] * (wish.signs == "all" and told.top > 0))


class Apart(Reading):
    def test_all_short_texts(self):
        for custom, signs in (
            (Custom(sizes=(2,), words=((3, "k"),)), "05,. k"), (Custom(sizes=(1, 2), group=" "), "05. +"),
            (Custom(sizes=(1,), least=2, minus=("", "-"), plus=("+", "p")), "0,+-p "),
            (Custom(group=" ", sizes=(2,), minus=("(", ")"), words=((1, "k"), (2, "kk"))), "01( )k"),
            (Custom(group="", words=((2, "ab"), (3, "a"))), "0. ab1"),
        ):
            for many in range(6):
                for text in map("".join, product(signs, repeat=many)):
                    self.held_apart(text, custom)

    def test_longer_texts_of_figures_and_groups(self):
        for custom in (Custom(sizes=(2, 1, 3)), Custom(sizes=(1, 2), group=" ", least=3), Custom(sizes=(2,), least=4)):
            for many in range(1, 12):
                for text in map("".join, product("1" + custom.group, repeat=many)):
                    self.held_apart(text, custom)

    def test_texts_changed_by_one_sign(self):
        for custom in CUSTOMS:
            wish = Wish(scaled=True, places=(0, 4), signs="all")
            for exact in ("0", "-1234567.25", "12345.5", "0.0625", "-123456789012"):
                text = written(number(Fraction(exact)), wish, custom)
                signs = " .,5" + custom.figures[0] + custom.figures[1] + custom.group + custom.point
                changed = {text[:at] + text[at + 1:] for at in range(len(text))}
                for at in range(len(text) + 1):
                    for sign in signs:
                        changed |= {text[:at] + sign + text[at:], text[:at] + sign + text[at + 1:]}
                        changed |= {text[:at] + sign + sign + text[at:]}
                for other in changed:
                    self.held_apart(other, custom)


class OfAnything(Reading):
    def test_things_that_are_no_such_texts(self):
        for custom in (PLAIN, BLANK, WORDS, Custom(group="")):
            for thing in things():
                if thing != "0" * 4000:
                    self.refused(thing, custom)
        for thing in (5, Number(5), ["5"], ("5",), {"5": 5}, None, True):
            self.refused(thing, PLAIN)

    def test_texts_of_four_thousand_signs(self):
        noughts = tuple((place, "nought") for place in range(3999))
        self.told("0" * 4000, Custom(group=""), 0, noughts)
        self.told("1 " * 2000, Custom(group=" ", sizes=(1,)), (10 ** 2000 - 1) // 9, [(3999, "blank")])
        self.told("1," * 1999 + "1", Custom(sizes=(1,)), (10 ** 2000 - 1) // 9)
        self.told("1." + "0" * 3997 + "1", PLAIN, 1 + Fraction(1, 10 ** 3998))
        self.told("1" * 4000, Custom(sizes=(1,)), (10 ** 4000 - 1) // 9, [(at, "lacking") for at in range(1, 4000)])
        self.told(" " * 3999 + "5", PLAIN, 5, [(at, "blank") for at in range(3999)])
        for text in (" " * 4000, "," * 4000, "1," * 2000, "." * 4000, "+" * 4000, "1.1 " * 1000, "\n" * 4000,
        "k" * 4000):
            self.refused(text, WORDS)

    def test_what_was_told_may_be_handed_in_again(self):
        custom = Custom(sizes=(1,))
        text = written(Number(10 ** 4199 + 7), Wish(places=(12, 12)), custom)
        self.assertGreater(len(text), 8400)
        self.told(text, custom, 10 ** 4199 + 7)


class ByAll(Reading):
    def by_all(self, text, customs, *told):
        what = read_by_all(text, customs)
        self.assertIs(what.__class__, tuple)
        self.assertTrue(all(pair.__class__ is tuple and pair[1].__class__ is int for pair in what))
        self.assertEqual([(fraction(one), at) for one, at in what], [(Fraction(exact), at) for exact, at in told], text)

    def test_none_one_and_unlike_numbers(self):
        comma = Custom(point=",", group=".")
        self.by_all("1,234", (PLAIN, comma), ("1234", 0), ("1.234", 1))
        self.by_all("1,234", (comma, PLAIN), ("1.234", 0), ("1234", 1))
        self.by_all("1,234", (PLAIN, PLAIN, comma, comma, PLAIN), ("1234", 0), ("1.234", 2))
        self.by_all("1,234.5", (comma, PLAIN), ("1234.5", 1))
        self.by_all("5", (comma, PLAIN, BLANK), ("5", 0))
        self.by_all("5.0", (PLAIN, comma), ("5", 0), ("50", 1))
        self.by_all("x", (comma, PLAIN))
        self.by_all("5", ())
        self.by_all("", (PLAIN,))
        self.by_all("5", (PLAIN,), ("5", 0))
        # Of unlike words, and of what is passed over, only the numbers are asked.
        kilo, other = Custom(words=((3, "k"),)), Custom(words=((4, "k"), (5, "m")))
        self.by_all("5k", (PLAIN, kilo, other, kilo), ("5000", 1), ("50000", 2))
        self.by_all("50k", (PLAIN, kilo, Custom(words=((4, "k"),))), ("50000", 1), ("500000", 2))
        self.by_all("+1234", (PLAIN, BLANK, Custom(sizes=(1,))), ("1234", 0))
        self.by_all("-5", (PLAIN, Custom(minus=("+", ""), plus=("-", ""))), ("-5", 0), ("5", 1))
        self.by_all("0", (Custom(figures="9876543210"), PLAIN), ("9", 0), ("0", 1))
        self.by_all("-0", (PLAIN, Custom(minus=("+", ""), plus=("-", ""))), ("0", 0))

    def test_of_alike_numbers_the_first_custom(self):
        comma = Custom(point=",", group=".")
        customs = (Custom(figures="ABCDEFGHIJ"), comma, PLAIN, comma, BLANK, PLAIN)
        self.by_all("1.5", customs, ("15", 1), ("1.5", 2))
        self.by_all("1.50", customs, ("150", 1), ("1.5", 2))

    def test_twelve_customs(self):
        customs = tuple(Custom(words=((power, "k"),)) for power in range(1, 13))
        self.by_all("5k", customs, *((5 * 10 ** power, power - 1) for power in range(1, 13)))
        self.by_all("5", customs, ("5", 0))
        self.by_all("5x", customs)
        self.by_all("5k", customs[::-1], *((5 * 10 ** (12 - at), at) for at in range(12)))

    def test_what_is_no_text(self):
        for thing in things():
            if thing != "0" * 4000:
                self.assertEqual(read_by_all(thing, (PLAIN, BLANK)), ())
        for thing in (5, Number(5), ["5"], ("5",), None, True):
            self.assertEqual(read_by_all(thing, (PLAIN, BLANK)), ())
        self.by_all("0" * 4000, (BLANK, PLAIN), ("0", 0))
        self.by_all("7" * 4000, (PLAIN,) * 12, ((10 ** 4000 - 1) // 9 * 7, 0))

    def test_held_against_each_custom(self):
        for text in ("1,234", "1 234", "1.234", "A0B", "5k", "5h", "5hh", "(5)", "5-", "p5p", "98", "12", "1,2,3", "5w",
        "--5-"):
            told, numbers = [], []
            for at, custom in enumerate(CUSTOMS):
                apart = kindly_by(text, custom)
                if apart is not None and apart[0] not in numbers:
                    numbers.append(apart[0])
                    told.append((apart[0], at))
            self.by_all(text, CUSTOMS, *told)


class Module(unittest.TestCase):
    def test_both_stand_in_the_file(self):
        for function in (read_kindly, read_by_all):
            self.assertEqual(function.__module__, "figuretexts.kindly")

    def test_nothing_is_changed_and_nothing_is_shared(self):
        before = dict(vars(WORDS))
        one, other = read_kindly("+5k", WORDS), read_kindly("+5k", WORDS)
        self.assertTrue(one == other and one[0] is not other[0])
        one, other = read_by_all("5", (PLAIN, WORDS)), read_by_all("5", (PLAIN, WORDS))
        self.assertTrue(one == other and one[0][0] is not other[0][0])
        self.assertEqual(vars(WORDS), before)
        thing = ["5"]
        with self.assertRaises(NoRead):
            read_kindly(thing, PLAIN)
        self.assertEqual(read_by_all(thing, (PLAIN,)), ())
        self.assertEqual(thing, ["5"])
