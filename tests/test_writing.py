"""Numbers written: signs, units, figures, points, groups, words."""

import unittest
from fractions import Fraction

from figuretexts.customs import Custom
from figuretexts.errors import NoFit
from figuretexts.numbers import Number, read_number
from figuretexts.options import WAYS
from figuretexts.wishes import Wish
from figuretexts.writing import written
from tests.apart import PAIRS, WISHES, grouped_by, numbers_around, written_by
from tests.things import number

PLAIN = Custom()
WORDS = Custom(words=((3, "k"), (6, "m")))


class Writing(unittest.TestCase):
    def told(self, text, wish, custom, what):
        self.assertEqual(written(number(Fraction(text)), wish, custom), what, text)


class Signs(Writing):
    def test_minus_and_plus_ahead_behind_both_and_brackets(self):
        for minus, plus, below, above in (
            (("-", ""), ("+", ""), "-5", "+5"), (("", "-"), ("", "+"), "5-", "5+"), (("(", ")"), ("[", "]"), "(5)",
            "[5]"),
            (("--", "-"), ("+", "+++"), "--5-", "+5+++"), (("", "CR"), ("DB", ""), "5CR", "DB5"),
            (("---", ""), ("", "+++"), "---5", "5+++"),
        ):
            custom = Custom(minus=minus, plus=plus)
            self.told("-5", Wish(), custom, below)
            self.told("5", Wish(), custom, "5")
            self.told("-5", Wish(signs="all"), custom, below)
            self.told("5", Wish(signs="all"), custom, above)
            self.told("0", Wish(), custom, "0")
            self.told("0", Wish(signs="all"), custom, "0")

    def test_what_rounds_to_nought_bears_no_sign(self):
        for signs in ("minus", "all"):
            self.told("-0.004", Wish(signs=signs), PLAIN, "0")
            self.told("0.004", Wish(signs=signs), PLAIN, "0")
            self.told("-0.004", Wish(signs=signs, places=(2, 2)), PLAIN, "0.00")
            self.told("-1", Wish(signs=signs, step=Number(5)), PLAIN, "0")
            self.told("1", Wish(signs=signs, step=Number(5)), PLAIN, "0")
            self.told("-0.4", Wish(signs=signs, places=(0, 0), scaled=True), WORDS, "0")
            self.told("-0.9", Wish(signs=signs, places=(0, 0), way="down"), PLAIN, "0")
        self.told("-0.9", Wish(places=(0, 0), way="up"), PLAIN, "-1")
        self.told("0.001", Wish(signs="all", way="up"), PLAIN, "+0.01")

    def test_what_rounds_away_from_nought_bears_the_sign(self):
        self.told("-0.001", Wish(figures=1), PLAIN, "-0.001")
        self.told("-0.006", Wish(), PLAIN, "-0.01")
        self.told("0.006", Wish(signs="all"), PLAIN, "+0.01")


class Units(Writing):
    def test_ahead_and_behind_within_the_signs(self):
        custom = Custom(minus=("(", ")"), plus=("[", "]"), words=((3, "k"),))
        for unit, five, below, above, word in (
            (("", ""), "5", "(5)", "[5]", "(5k)"), (("$", ""), "$5", "($5)", "[$5]", "($5k)"),
            (("", "m"), "5m", "(5m)", "[5m]", "(5km)"), (("$ ", " m"), "$ 5 m", "($ 5 m)", "[$ 5 m]", "($ 5k m)"),
            (("abcdef", "ghijlm"), "abcdef5ghijlm", "(abcdef5ghijlm)", "[abcdef5ghijlm]", "(abcdef5kghijlm)"),
        ):
            self.told("5", Wish(unit=unit), custom, five)
            self.told("-5", Wish(unit=unit), custom, below)
            self.told("5", Wish(unit=unit, signs="all"), custom, above)
            self.told("-5000", Wish(unit=unit, scaled=True), custom, word)
            self.told("0", Wish(unit=unit, signs="all"), custom, five.replace("5", "0"))

    def test_a_wish_that_does_not_fit(self):
        for wish in WISHES:
            for unit, sign in ((("u-", ""), "-"), (("", "u5@"), "5"), (("u\n", "~"), "\n"), (("u", "v,u"), ",")):
                with self.assertRaises(NoFit) as caught:
                    written(Number(5), wish.but(unit=unit), PLAIN)
                self.assertEqual(caught.exception.thing, sign)


class Figures(Writing):
    def test_ahead_of_the_point_without_noughts_one_at_least(self):
        for text, what in (
            ("0", "0"), ("0.5", "0.5"), ("-0.25", "-0.25"), ("1", "1"), ("10", "10"), ("0.01", "0.01"), ("100.01",
            "100.01"),
        ):
            self.told(text, Wish(), PLAIN, what)

    def test_behind_it_as_few_as_write_it_but_the_fewest_at_least(self):
        for text, places, what in (
            ("5", (0, 0), "5"), ("5", (0, 2), "5"), ("5", (1, 2), "5.0"), ("5", (2, 2), "5.00"), ("5.5", (0, 2), "5.5"),
            ("5.5", (2, 2), "5.50"), ("5.25", (0, 2), "5.25"), ("5.25", (1, 2), "5.25"), ("0", (3, 3), "0.000"),
            ("5.255", (1, 2), "5.26"), ("5.101", (0, 2), "5.1"), ("5.101", (2, 2), "5.10"), ("5.999", (0, 2), "6"),
            ("5.999", (1, 2), "6.0"), ("1/3", (0, 12), "0.333333333333"), ("5", (12, 12), "5.000000000000"),
            ("1/1000000000000", (0, 12), "0.000000000001"), ("5.2", (1, 12), "5.2"), ("1000", (0, 2), "1,000"),
        ):
            self.told(text, Wish(places=places), PLAIN, what)

    def test_by_a_step(self):
        for text, step, places, what in (
            ("5", "1/4", (0, 2), "5"), ("5", "1/4", (1, 2), "5.0"), ("5.3", "1/4", (0, 2), "5.25"),
            ("5.5", "1/4", (0, 2), "5.5"), ("5.5", "1/4", (2, 2), "5.50"), ("7", "5", (0, 0), "5"), ("7", "5", (2, 2),
            "5.00"),
            ("1499", "1000", (0, 2), "1,000"), ("1", "5", (1, 1), "0.0"), ("1.7", "3/2", (0, 4), "1.5"),
        ):
            self.told(text, Wish(step=read_number(step), places=places), PLAIN, what)

    def test_so_many_figures(self):
        for text, figures, what in (
            ("0", 1, "0"), ("0", 2, "0.0"), ("0", 3, "0.00"), ("0", 12, "0.00000000000"), ("5", 1, "5"), ("5", 2,
            "5.0"),
            ("5", 3, "5.00"), ("50", 3, "50.0"), ("500", 3, "500"), ("5000", 3, "5,000"), ("123456", 3, "123,000"),
            ("0.5", 1, "0.5"), ("0.5", 3, "0.500"), ("0.05", 1, "0.05"), ("0.05", 3, "0.0500"), ("1/3", 3, "0.333"),
            ("1/300", 3, "0.00333"), ("12.345", 3, "12.3"), ("12.345", 2, "12"), ("12.345", 1, "10"), ("12.3", 4,
            "12.30"),
            ("-12.345", 4, "-12.34"), ("120", 2, "120"), ("120", 3, "120"), ("120", 4, "120.0"), ("1000", 4, "1,000"),
            ("1000", 5, "1,000.0"), ("0.1", 12, "0.100000000000"),
        ):
            self.told(text, Wish(figures=figures), PLAIN, what)
            # How many places stand is told by the figures alone.
            self.told(text, Wish(figures=figures, places=(5, 6)), PLAIN, what)

    def test_nines_that_round_up_to_one_figure_more(self):
        for text, figures, what in (
            ("9.99", 2, "10"), ("9.99", 1, "10"), ("99.9", 2, "100"), ("0.999", 2, "1.0"), ("0.0999", 2, "0.10"),
            ("0.00996", 2, "0.010"), ("9.96", 2, "10"), ("999.6", 3, "1,000"), ("0.96", 1, "1"), ("9.995", 3, "10.0"),
            ("-99.95", 3, "-100"), ("99.95", 4, "99.95"), ("0.9996", 3, "1.00"),
        ):
            self.told(text, Wish(figures=figures), PLAIN, what)

    def test_the_signs_of_the_figures_and_of_the_point(self):
        custom = Custom(figures="ABCDEFGHIJ", point=";", group="'")
        self.told("1234567.89", Wish(), custom, "B'CDE'FGH;IJ")
        self.told("0", Wish(places=(2, 2)), custom, "A;AA")
        self.told("-0.05", Wish(), custom, "-A;AF")
        # Figures that stand elsewhere, and a point and group that are figures elsewhere.
        self.told("1234.5", Wish(), Custom(figures="9876543210"), "8,765.4")
        self.told("1234.5", Wish(), Custom(figures="ABCDEFGHIJ", point="0", group="1"), "B1CDE0F")

    def test_by_each_way(self):
        told = dict(zip(WAYS, ("0.4", "0.3", "0.4", "0.3", "0.4", "0.3", "0.4", "0.3")))
        below = dict(zip(WAYS, ("-0.4", "-0.3", "-0.3", "-0.4", "-0.4", "-0.3", "-0.4", "-0.3")))
        for way in WAYS:
            self.told("0.35", Wish(places=(0, 1), way=way), PLAIN, told[way])
            self.told("-0.35", Wish(places=(0, 1), way=way), PLAIN, below[way])


class Groups(Writing):
    def test_unlike_lengths(self):
        figures = "1234567890123456789"
        for sizes, what in (
            ((3,), "1,234,567,890,123,456,789"), ((1,), ",".join(figures)), ((6,), "1,234567,890123,456789"),
            ((2,), "1,23,45,67,89,01,23,45,67,89"), ((3, 2), "12,34,56,78,90,12,34,56,789"),
            ((2, 3), "12,345,678,901,234,567,89"), ((1, 2, 3), "1,234,567,890,123,456,78,9"),
            ((4, 3, 2, 1), "1,2,3,4,5,6,7,8,9,0,12,345,6789"), ((6, 5, 4, 3), "1,234,5678,90123,456789"),
            ((1, 1, 1, 6), "1234,567890,123456,7,8,9"), ((6, 1), ",".join("1234567890123") + ",456789"),
        ):
            self.told(figures, Wish(places=(0, 0)), Custom(sizes=sizes), what)

    def test_as_many_figures_as_the_first_size_and_least_and_one_fewer(self):
        for sizes in ((1,), (3,), (6,), (3, 2), (2, 4, 1)):
            for least in (1, 2, 3, 4):
                custom = Custom(sizes=sizes, least=least)
                for many in range(1, 13):
                    figures = "7" * many
                    self.told(figures, Wish(), custom, grouped_by(figures, custom))
                edge = sizes[0] + least
                self.assertEqual(written(Number(10 ** (edge - 2)), Wish(), custom), "1" + "0" * (edge - 2))
                self.assertIn(",", written(Number(10 ** (edge - 1)), Wish(), custom))

    def test_least(self):
        for least, four, five, seven in (
            (1, "1,234", "12,345", "1,234,567"), (2, "1234", "12,345", "1,234,567"), (3, "1234", "12345", "1,234,567"),
            (4, "1234", "12345", "1,234,567"),
        ):
            custom = Custom(least=least)
            self.told("1234", Wish(), custom, four)
            self.told("12345", Wish(), custom, five)
            self.told("1234567", Wish(), custom, seven)
            self.told("-1234.56", Wish(), custom, "-" + four + ".56")
        self.told("123456", Wish(), Custom(least=4), "123456")
        self.told("123", Wish(), PLAIN, "123")

    def test_figures_behind_the_point_are_not_parted(self):
        self.told("1234.567891", Wish(places=(0, 6)), Custom(sizes=(1,)), "1,2,3,4.567891")
        self.told("0.123456", Wish(places=(0, 6)), Custom(sizes=(1,)), "0.123456")

    def test_no_group_sign_and_a_blank(self):
        self.told("1234567", Wish(), Custom(group=""), "1234567")
        self.told("1234567", Wish(), Custom(group=" "), "1 234 567")
        self.told("1234567.5", Wish(unit=("$", "EUR")), Custom(group=" ", point=","), "$1 234 567,5EUR")

    def test_not_grouped(self):
        for custom in (PLAIN, Custom(sizes=(1,)), Custom(group=" ")):
            self.told("1234567.5", Wish(grouped=False), custom, "1234567.5")

    def test_nought_is_one_figure(self):
        self.told("0.5", Wish(), Custom(sizes=(1,)), "0.5")


class Words(Writing):
    def test_at_a_word_s_power_just_below_it_and_rounded_up_to_it(self):
        wish = Wish(places=(0, 1), scaled=True)
        for text, what in (
            ("0", "0"), ("999", "999"), ("999.94", "999.9"), ("999.95", "1k"), ("1000", "1k"), ("1234", "1.2k"),
            ("-1234", "-1.2k"), ("999949", "999.9k"), ("999950", "1m"), ("999960", "1m"), ("1000000", "1m"),
            ("1260000", "1.3m"), ("1234567890", "1,234.6m"), ("999999999999", "1,000,000m"), ("-999960", "-1m"),
        ):
            self.told(text, wish, WORDS, what)
        self.told("999960", Wish(places=(1, 1), scaled=True), WORDS, "1.0m")
        self.told("999", wish, Custom(words=((4, "w"),)), "999")
        self.told("1234.5", wish, Custom(words=((4, "w"),)), "1,234.5")

    def test_by_figures(self):
        for text, figures, what in (
            ("1234", 2, "1.2k"), ("1234", 1, "1k"), ("1234", 6, "1.23400k"), ("999600", 3, "1.00m"), ("99.96", 3,
            "100"),
            ("999.6", 3, "1.00k"), ("123456789", 2, "120m"), ("0", 3, "0.00"),
        ):
            self.told(text, Wish(figures=figures, scaled=True), WORDS, what)

    def test_not_scaled_there_is_no_word(self):
        for text, what in (("1000", "1,000"), ("1000000", "1,000,000")):
            self.told(text, Wish(), WORDS, what)
            self.told(text, Wish(step=Number(5)), WORDS, what)
        self.told("1000000", Wish(scaled=True), PLAIN, "1,000,000")

    def test_words_that_begin_like_one_another(self):
        custom = Custom(words=((1, "a"), (2, "aa"), (3, "ab"), (4, "aab"), (5, "b"), (30, "ba")))
        wish = Wish(scaled=True, places=(0, 0))
        for text, what in (
            ("5", "5"), ("50", "5a"), ("500", "5aa"), ("5000", "5ab"), ("50000", "5aab"), ("500000", "5b"),
            ("5" + "0" * 30, "5ba"), ("5" + "0" * 29, "5,000,000,000,000,000,000,000,000b"),
        ):
            self.told(text, wish, custom, what)


class Apart(Writing):
    def test_held_against_the_rules_made_apart(self):
        numbers = numbers_around()
        for at, (wish, custom) in enumerate(PAIRS):
            for exact in numbers[at % 7::7]:
                self.assertEqual(
                    written(number(exact), wish, custom), written_by(exact, wish, custom), (exact, vars(wish)),
                )


class Great(Writing):
    def test_numbers_of_some_thousand_figures(self):
        figures = "1234567890" * 420
        top = 0
        for at in range(0, 4200, 60):
            top = top * 10 ** 60 + int(figures[at:at + 60])
        self.assertEqual(written(Number(top), Wish(grouped=False), PLAIN), figures)
        self.assertEqual(written(Number(-top, 10 ** 12), Wish(grouped=False, places=(0, 12)), PLAIN), (
            "-" + figures[:-12] + "." + figures[-12:].rstrip("0")
        ))
        self.assertEqual(written(Number(top), Wish(), Custom(sizes=(1,))), ",".join(figures))
        self.assertEqual(written(Number(top), Wish(places=(12, 12)), PLAIN), grouped_by(figures,
        PLAIN) + "." + "0" * 12)
        self.assertEqual(written(Number(top), Wish(figures=3), Custom(group="")), "123" + "0" * 4197)
        self.assertEqual(written(Number(top), Wish(figures=3, scaled=True), Custom(group="", words=((30, "q"),))), (
            "123" + "0" * 4167 + "q"
        ))
        self.assertEqual(written(Number(1, 3 * 10 ** 4190), Wish(figures=12), PLAIN), "0." + "0" * 4190 + "3" * 12)
        self.assertEqual(written(Number(1, top), Wish(), PLAIN), "0")


class Module(unittest.TestCase):
    def test_it_stands_in_the_file(self):
        self.assertEqual(written.__module__, "figuretexts.writing")

    def test_nothing_is_changed_and_the_same_is_told(self):
        for wish, custom in PAIRS[::5]:
            one, before = Number(-12345, 7), (dict(vars(wish)), dict(vars(custom)))
            self.assertEqual(written(one, wish, custom), written(one, wish, custom))
            self.assertEqual((str(one), (vars(wish), vars(custom))), ("-12345/7", before))
