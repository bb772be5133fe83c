"""Two customs held together: the least number at which they part."""

import unittest
from fractions import Fraction
from random import Random

from figuretexts.customs import Custom
from figuretexts.errors import NoFit
from figuretexts.numbers import Number
from figuretexts.options import WAYS
from figuretexts.parting import least_parted
from figuretexts.wishes import Wish
from figuretexts.writing import written
from tests.apart import CUSTOMS, WISHES, fits_by, rounded_as_wished, written_by
from tests.things import fraction, number

PLAIN = Custom()
WHOLE = Wish(places=(0, 0))
LITTLE = Wish(places=(0, 12), step=Number(1, 10 ** 12))
GREAT = Wish(step=Number(10 ** 12))
NINES = 999999999999
BY_NINES = Wish(step=Number(NINES))


def step_by(wish):
    return Fraction(1, 10 ** wish.places[1]) if wish.step is None else fraction(wish.step)


def first_by(one, other, wish, counts):
    """The first multiple of the step, among these counts of steps, at which the texts are unlike; None without one."""
    for count in counts:
        for exact in (count * step_by(wish), -count * step_by(wish)):
            if written_by(exact, wish, one) != written_by(exact, wish, other):
                return exact
    return None


def first_counts(step, most):
    """How many steps the least multiple has that has so many figures ahead of the point, 2 to most, or more."""
    return [-(-10 ** (many - 1) // step).__floor__() for many in range(2, most + 1)]


def taken_from(rest, many):
    return "".join(rest.pop() for _ in range(many))


def any_custom(chance):
    """A custom of few signs, most figures as usual: so that signs of the one are figures of the other."""
    figures = list("0123456789")
    rest = list("abc.,-+x()")
    chance.shuffle(rest)
    for _ in range(chance.choice((0, 1, 1, 2, 3))):
        at = chance.randrange(10)
        figures[at], rest[0] = rest[0], figures[at]
        if chance.random() < 0.7:
            chance.shuffle(rest)
    pairs = []
    for _ in range(2):
        ahead, behind = chance.choice(((1, 0), (0, 1), (1, 1), (2, 0), (0, 2)))
        pairs.append((taken_from(rest, ahead), taken_from(rest, behind)))
    return Custom(
        point=rest.pop(), group=rest.pop() if chance.random() < 0.8 else "", minus=pairs[0], plus=pairs[1],
        figures="".join(figures), sizes=tuple(chance.choice((1, 2, 3, 4)) for _ in range(chance.choice((1, 1, 2, 3)))),
        least=chance.choice((1, 1, 2, 4)),
    )


class Parting(unittest.TestCase):
    def told(self, one, other, wish, exact):
        """Hold that this is told, whichever of the customs is the first one."""
        for first, second in ((one, other), (other, one)):
            told = least_parted(first, second, wish)
            if exact is None:
                self.assertIsNone(told)
                continue
            self.assertIsInstance(told, Number)
            self.assertEqual(fraction(told), Fraction(exact), (vars(first), vars(second), vars(wish)))
            self.assertNotEqual(written(told, wish, first), written(told, wish, second))


class Alike(Parting):
    def test_customs_that_are_one(self):
        for custom in CUSTOMS:
            for wish in (Wish(), WHOLE, LITTLE, GREAT, BY_NINES, Wish(signs="all"), Wish(grouped=False)):
                self.told(custom, custom, wish, None)
                self.told(custom, custom.but(), wish, None)

    def test_words_between_and_about_play_no_part(self):
        for wish in (Wish(), LITTLE, GREAT, Wish(signs="all")):
            self.told(PLAIN, PLAIN.but(words=((3, "k"),)), wish, None)
            self.told(PLAIN.but(words=((3, "m"),)), PLAIN.but(words=((3, "k"), (6, "m"))), wish, None)
            self.told(PLAIN, PLAIN.but(between="to"), wish, None)
            self.told(PLAIN, PLAIN.but(about="ca"), wish, None)
            self.told(PLAIN, PLAIN.but(about="~", between="@", words=((30, "q"),)), wish, None)

    def test_fields_that_no_text_shows(self):
        self.told(PLAIN, PLAIN.but(plus=("p", "")), Wish(), None)
        self.told(PLAIN, PLAIN.but(point=";"), WHOLE, None)
        self.told(PLAIN, PLAIN.but(point=";"), Wish(step=Number(5)), None)
        self.told(PLAIN, PLAIN.but(point=";"), GREAT, None)
        self.told(PLAIN, PLAIN.but(group="'"), Wish(grouped=False), None)
        self.told(PLAIN, PLAIN.but(group=""), Wish(grouped=False), None)
        self.told(PLAIN, PLAIN.but(sizes=(2,)), Wish(grouped=False), None)
        self.told(PLAIN, PLAIN.but(least=2), Wish(grouped=False), None)
        self.told(PLAIN.but(group=""), PLAIN.but(group="", sizes=(2, 1), least=4), Wish(), None)
        self.told(PLAIN, PLAIN.but(sizes=(3, 3)), Wish(), None)
        self.told(PLAIN.but(sizes=(2, 3, 3, 3)), PLAIN.but(sizes=(2, 3)), Wish(), None)
        self.told(PLAIN.but(sizes=(1, 1, 1, 1)), PLAIN.but(sizes=(1,)), LITTLE, None)


class OneFieldUnlike(Parting):
    def test_point(self):
        self.told(PLAIN, PLAIN.but(point=";"), Wish(), "1/100")
        self.told(PLAIN, PLAIN.but(point=";"), LITTLE, Fraction(1, 10 ** 12))
        self.told(PLAIN, PLAIN.but(point=";"), Wish(places=(1, 2)), 0)
        self.told(PLAIN, PLAIN.but(point=";"), Wish(places=(2, 2), step=Number(5)), 0)
        self.told(PLAIN, PLAIN.but(point=";"), Wish(step=Number(5, 2)), "5/2")
        self.told(PLAIN, PLAIN.but(point=";"), Wish(places=(0, 1), signs="all"), "1/10")

    def test_group(self):
        self.told(PLAIN, PLAIN.but(group="'"), Wish(), 1000)
        self.told(PLAIN, PLAIN.but(group=" "), Wish(), 1000)
        self.told(PLAIN, PLAIN.but(group=""), Wish(), 1000)
        self.told(PLAIN.but(group=""), PLAIN.but(group=" "), WHOLE, 1000)
        self.told(PLAIN, PLAIN.but(group=""), GREAT, 10 ** 12)
        self.told(PLAIN, PLAIN.but(group=""), LITTLE, 1000)
        self.told(PLAIN, PLAIN.but(group=""), Wish(step=Number(7)), 1001)
        thirds = Wish(step=Number(3, 10 ** 11), places=(0, 11))
        self.told(PLAIN, PLAIN.but(group=""), thirds, 1000 + Fraction(2, 10 ** 11))
        self.told(PLAIN.but(least=3), PLAIN.but(group=""), Wish(), 100000)

    def test_sizes(self):
        for one, other, exact in (
            ((3,), (2,), 100), ((3,), (4,), 1000), ((3,), (3, 2), 10 ** 5), ((3,), (3, 4), 10 ** 6),
            ((3, 2), (3, 2, 3), 10 ** 7), ((3, 2), (3, 2, 2, 1), 10 ** 8), ((1,), (2,), 10), ((6,), (1, 6), 10),
            ((6, 6, 6, 6), (6, 6, 6, 5), 10 ** 23), ((6, 6, 6, 1), (6, 6, 6, 2), 10 ** 19), ((6,), (6, 6, 5), 10 ** 17),
            ((6, 6), (6, 5), 10 ** 11), ((1, 1, 1, 1), (1, 1, 1, 2), 10 ** 4), ((1, 2), (1, 2, 1), 10 ** 4),
            ((6, 6, 6, 5), (6, 6, 6), 10 ** 23), ((5, 6, 4, 1), (5, 6, 4, 6), 10 ** 16),
        ):
            self.told(PLAIN.but(sizes=one), PLAIN.but(sizes=other), Wish(), exact)
            self.told(PLAIN.but(sizes=one), PLAIN.but(sizes=other), WHOLE, exact)
            self.told(PLAIN.but(sizes=one), PLAIN.but(sizes=other), LITTLE, exact)
            self.told(PLAIN.but(sizes=one), PLAIN.but(sizes=other), GREAT, max(exact, 10 ** 12))
            steps = max(-(-exact // NINES), 1)
            self.told(PLAIN.but(sizes=one), PLAIN.but(sizes=other), BY_NINES, steps * NINES)

    def test_least(self):
        self.told(PLAIN, PLAIN.but(least=2), Wish(), 1000)
        self.told(PLAIN.but(least=3), PLAIN.but(least=2), Wish(), 10000)
        self.told(PLAIN.but(least=3), PLAIN.but(least=4), Wish(), 100000)
        self.told(PLAIN.but(sizes=(6,), least=3), PLAIN.but(sizes=(6,), least=4), Wish(), 10 ** 8)
        self.told(PLAIN.but(sizes=(1,)), PLAIN.but(sizes=(1,), least=2), Wish(), 10)
        self.told(PLAIN.but(sizes=(3,), least=1), PLAIN.but(sizes=(2,), least=2), Wish(), 1000)
        self.told(PLAIN.but(sizes=(1,), least=4), PLAIN.but(sizes=(1, 2), least=4), Wish(), 10000)

    def test_least_and_steps_that_have_no_multiple_of_so_many_figures(self):
        one, other = PLAIN, PLAIN.but(least=2)
        for step, exact in (
            (999, 1998), (5000, 5000), (9999, 9999), (10000, None), (10 ** 12, None), (NINES, None), (12345, None),
            (1001, 1001), (501, 1002), (3334, 3334),
        ):
            self.told(one, other, Wish(step=Number(step)), exact)
        self.told(PLAIN.but(least=4), one, Wish(step=Number(4000000)), None)
        self.told(PLAIN.but(least=4), one, Wish(step=Number(400000)), 400000)
        self.told(PLAIN.but(least=4), one, Wish(step=Number(999999)), 999999)
        # Other groups make them part beyond all the same.
        self.told(one, PLAIN.but(least=2, sizes=(3, 2)), Wish(step=Number(10 ** 12)), 10 ** 12)

    def test_minus(self):
        for minus in (("", "-"), ("(", ")"), ("--", ""), ("-", "-"), ("x", "")):
            self.told(PLAIN, PLAIN.but(minus=minus), Wish(), "-1/100")
            self.told(PLAIN, PLAIN.but(minus=minus), WHOLE, -1)
            self.told(PLAIN, PLAIN.but(minus=minus), LITTLE, Fraction(-1, 10 ** 12))
            self.told(PLAIN, PLAIN.but(minus=minus), GREAT, -(10 ** 12))
            self.told(PLAIN, PLAIN.but(minus=minus), BY_NINES, -NINES)
            self.told(PLAIN, PLAIN.but(minus=minus), Wish(signs="all", unit=("$ ", " $")), "-1/100")

    def test_plus(self):
        for plus in (("", "+"), ("p", "q"), ("++", ""), ("+", "+"), ("x", "")):
            self.told(PLAIN, PLAIN.but(plus=plus), Wish(), None)
            self.told(PLAIN, PLAIN.but(plus=plus), LITTLE, None)
            self.told(PLAIN, PLAIN.but(plus=plus), Wish(signs="all"), "1/100")
            self.told(PLAIN, PLAIN.but(plus=plus), GREAT.but(signs="all"), 10 ** 12)
            self.told(PLAIN, PLAIN.but(plus=plus), Wish(signs="all", places=(2, 2)), "1/100")
        # Of one size the number above nought comes first.
        self.told(PLAIN, PLAIN.but(plus=("p", ""), minus=("m", "")), Wish(signs="all"), "1/100")
        self.told(PLAIN, PLAIN.but(plus=("p", ""), minus=("m", "")), Wish(), "-1/100")
        self.told(PLAIN, Custom(plus=("-", ""), minus=("+", "")), WHOLE, -1)
        self.told(PLAIN, Custom(plus=("-", ""), minus=("+", "")), WHOLE.but(signs="all"), 1)

    def test_one_figure(self):
        self.told(PLAIN, PLAIN.but(figures="x123456789"), Wish(), 0)
        self.told(PLAIN, PLAIN.but(figures="x123456789"), GREAT, 0)
        self.told(PLAIN, PLAIN.but(figures="x123456789"), LITTLE.but(signs="all"), 0)
        for figure in range(1, 10):
            figures = "0123456789"[:figure] + "x" + "0123456789"[figure + 1:]
            other = PLAIN.but(figures=figures)
            self.told(PLAIN, other, WHOLE, figure)
            self.told(PLAIN, other, Wish(), Fraction(figure, 100))
            self.told(PLAIN, other, LITTLE, Fraction(figure, 10 ** 12))
            self.told(PLAIN, other, GREAT, figure * 10 ** 12)
            for step in (NINES, 25, 1111, 10 ** 6 + 1, 99, 101, 112233445566):
                exact = next(many for many in range(step, 100 * step, step) if str(figure) in str(many))
                self.told(PLAIN, other, Wish(step=Number(step)), exact)
                self.told(PLAIN, other, Wish(step=Number(step), places=(3, 3), unit=("$", "")), exact)

    def test_figures_that_are_exchanged(self):
        self.told(PLAIN, PLAIN.but(figures="0123456798"), WHOLE, 8)
        self.told(PLAIN, PLAIN.but(figures="0213456789"), WHOLE, 1)
        self.told(PLAIN, PLAIN.but(figures="0213456789"), Wish(step=Number(4)), 12)
        self.told(PLAIN, PLAIN.but(figures="9876543210"), LITTLE, 0)
        self.told(PLAIN, PLAIN.but(figures="1023456789"), GREAT, 0)
        self.told(PLAIN, PLAIN.but(figures="0123456798"), BY_NINES, NINES)
        self.told(PLAIN, PLAIN.but(figures="0213456789"), BY_NINES, 2 * NINES)


class ByChance(Parting):
    """Texts that are alike though signs and figures are not."""

    def test_a_sign_behind_that_is_a_figure_of_the_other_custom(self):
        other = PLAIN.but(figures="01234-6789", minus=("", "5"))
        five = Wish(step=Number(5))
        self.assertEqual(written(Number(-5), five, PLAIN), "-5")
        self.assertEqual(written(Number(-5), five, other), "-5")
        self.told(PLAIN, other, five, 5)
        self.told(PLAIN, other, Wish(step=Number(2)), -2)
        pluses = PLAIN.but(figures="01234+6789", plus=("", "5"), minus=("-", ""))
        self.assertEqual(written(Number(5), five.but(signs="all"), pluses), "+5")
        self.told(PLAIN, pluses, five.but(signs="all"), -5)
        self.told(PLAIN, pluses, five, 5)
        self.told(PLAIN, pluses, Wish(step=Number(50), signs="all"), 50)

    def test_a_group_sign_that_is_a_figure_of_the_other_custom(self):
        other = Custom(figures="01234,6789", group="5", sizes=(2,))
        wish = Wish(step=Number(1534))
        self.assertEqual(written(Number(1534), wish, PLAIN), "1,534")
        self.assertEqual(written(Number(1534), wish, other), "1,534")
        self.told(PLAIN, other, wish, 3068)
        self.told(PLAIN, other, wish.but(signs="all"), 3068)
        self.told(PLAIN, other, WHOLE, 5)
        self.told(PLAIN, other, Wish(step=Number(100)), 100)

    def test_held_against_a_search(self):
        chance = Random(20)
        wishes = [
            WHOLE, Wish(), Wish(places=(1, 1)), Wish(signs="all"), Wish(step=Number(5)), Wish(step=Number(1534)),
            Wish(step=Number(5), signs="all"), Wish(step=Number(55)), Wish(step=Number(1, 4), signs="all"),
            Wish(grouped=False, step=Number(3)), Wish(step=Number(512), signs="all", unit=("$ ", "")),
            Wish(step=Number(1000)), BY_NINES, LITTLE, GREAT.but(signs="all"),
        ]
        kinds = {"small": 0, "great": 0, "none": 0}
        for at in range(600):
            one, other = any_custom(chance), any_custom(chance)
            if at % 3 == 1:
                other = one.but(sizes=other.sizes, least=other.least)
            wish = wishes[at % len(wishes)]
            step = step_by(wish)
            exact = first_by(one, other, wish, range(95))
            kinds["small" if exact is not None else "great"] += 1
            if exact is None:
                counts = [count + off for count in first_counts(step, 26) for off in (-1, 0, 1, 2)]
                counts = sorted(counts + [chance.randrange(10 ** chance.randrange(2, 25)) for _ in range(20)])
                exact = first_by(one, other, wish, counts)
                kinds["none"] += exact is None
            self.told(one, other, wish, exact)
        self.assertTrue(all(many > 30 for many in kinds.values()), kinds)

    def test_held_against_a_search_of_all_customs_and_wishes(self):
        for wish in WISHES:
            if wish.figures is not None or wish.scaled:
                continue
            for one in CUSTOMS:
                for other in CUSTOMS:
                    if fits_by(wish, one) and fits_by(wish, other):
                        counts = sorted(list(range(95)) + first_counts(step_by(wish), 26))
                        self.told(one, other, wish, first_by(one, other, wish, counts))


class Wishes(Parting):
    def test_the_way_plays_no_part(self):
        for way in WAYS:
            self.told(PLAIN, PLAIN.but(minus=("(", ")")), Wish(way=way), "-1/100")
            self.told(PLAIN, PLAIN.but(sizes=(2,)), Wish(way=way, step=Number(7)), 105)
            self.told(PLAIN, PLAIN.but(point=";"), Wish(way=way, places=(0, 0)), None)

    def test_what_is_told_is_meant_by_the_wish(self):
        for wish in (Wish(step=Number(7, 4)), Wish(places=(0, 3)), GREAT, LITTLE, BY_NINES):
            for other in (PLAIN.but(group="'"), PLAIN.but(minus=("m", "")), PLAIN.but(figures="0123456798")):
                told = fraction(least_parted(PLAIN, other, wish))
                self.assertEqual(rounded_as_wished(told, wish), told)

    def test_units(self):
        unit = Wish(unit=("$ ", " km"))
        self.told(PLAIN, PLAIN.but(point=";"), unit, "1/100")
        self.told(PLAIN, PLAIN.but(minus=("(", ")")), unit, "-1/100")
        self.told(PLAIN, PLAIN.but(words=((3, "q"),)), unit, None)

    def test_units_that_do_not_fit(self):
        for one, other, unit, sign in (
            (PLAIN, Custom(point=";"), ("x.", ""), "."), (Custom(point=";"), PLAIN, ("x.", ""), "."),
            (PLAIN, Custom(point=";"), (";", "."), "."), (Custom(point=";"), PLAIN, (";", "."), ";"),
            (PLAIN, Custom(point=";"), (".", ";"), "."), (Custom(point=";"), PLAIN, (".", ";"), ";"),
            (PLAIN, PLAIN, ("x", "\n"), "\n"), (PLAIN, Custom(words=((3, "k"),)), ("", " km"), "k"),
            (PLAIN, Custom(about="m"), ("", " km"), "m"), (Custom(between="k"), Custom(about="m"), ("", " mk"), "k"),
            (PLAIN, PLAIN, ("", "@~"), "@"), (PLAIN, Custom(group=" "), ("", " km"), " "),
        ):
            with self.assertRaises(NoFit) as caught:
                least_parted(one, other, Wish(unit=unit))
            self.assertEqual(caught.exception.thing, sign)

    def test_nothing_that_is_handed_in_is_changed_and_the_same_is_told(self):
        other, wish = PLAIN.but(sizes=(3, 2)), Wish(step=Number(7, 4))
        before = (dict(vars(PLAIN)), dict(vars(other)), dict(vars(wish)))
        first = least_parted(PLAIN, other, wish)
        self.assertEqual(first, least_parted(PLAIN, other, wish))
        self.assertIsNot(first, least_parted(PLAIN, other, wish))
        self.assertEqual((dict(vars(PLAIN)), dict(vars(other)), dict(vars(wish))), before)
        step = Number(5)
        wish = Wish(step=step)
        told = least_parted(PLAIN, PLAIN.but(minus=("m", "")), wish)
        told.top = 77
        self.assertEqual((str(step), str(wish.step)), ("5", "5"))
        self.assertEqual(least_parted(PLAIN, PLAIN.but(minus=("m", "")), wish), number(-5))
