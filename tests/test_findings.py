"""Findings: those that hold, and all others."""

import unittest
from fractions import Fraction

from figuretexts.columns import column
from figuretexts.customs import Custom
from figuretexts.findings import finding_holds
from figuretexts.meaning import meant
from figuretexts.numbers import Number
from figuretexts.options import WAYS
from figuretexts.parting import least_parted
from figuretexts.rounding import round_paper
from figuretexts.shortest import shortest
from figuretexts.sums import parts_rounded
from figuretexts.wishes import Wish
from figuretexts.writing import written
from tests.apart import CUSTOMS, PAIRS, WISHES, fits_by, numbers_around
from tests.things import number, things

PLAIN = Custom()
BRACKETS = Custom(minus=("(", ")"))
WORDS = Custom(words=((3, "k"), (6, "m")))
HALF = Number(1, 2)


def rounded_finding(one, step, way):
    return "rounded", one, step, way, round_paper(one, step, way=way)


def meant_finding(one, wish, custom):
    return "meant", one, wish, custom, written(one, wish, custom), meant(one, wish, custom)


def shortest_finding(one, step):
    return ("shortest", one, step) + shortest(one, step)


def sum_finding(parts, step):
    return ("sum", parts, step) + parts_rounded(parts, step)


def parted_finding(one, other, wish):
    return "parted", one, other, wish, least_parted(one, other, wish)


THIRDS = (Number(1, 3), Number(1, 3), Number(1, 3))
FINDINGS = (
    rounded_finding(Number(5, 2), Number(1), "half even"), rounded_finding(Number(3), Number(1), "up"),
    rounded_finding(Number(-7, 3), Number(1, 4), "half odd"),
    meant_finding(Number(-2469, 2), Wish(), BRACKETS), meant_finding(Number(999960), Wish(scaled=True), WORDS),
    meant_finding(Number(1, 3), Wish(figures=3, unit=("$ ", " x")), PLAIN),
    shortest_finding(Number(1, 10), Number(1, 10)), shortest_finding(Number(5), Number(1)),
    shortest_finding(Number(-123, 100), Number(1, 100)),
    sum_finding(THIRDS, Number(1)), sum_finding((Number(5, 2), Number(-1, 4), Number(7)), HALF),
    parted_finding(PLAIN, BRACKETS, Wish()), parted_finding(PLAIN, WORDS, Wish(unit=("$", ""))),
    parted_finding(PLAIN, PLAIN.but(sizes=(3, 2)), Wish(step=Number(7))),
)
SORTS = ("rounded", "meant", "shortest", "sum", "parted")


class Findings(unittest.TestCase):
    def holds(self, thing):
        self.assertIs(finding_holds(thing), True, repr(thing)[:300])

    def fails(self, thing):
        self.assertIs(finding_holds(thing), False, repr(thing)[:300])


class Hold(Findings):
    def test_the_known_ones(self):
        for finding in FINDINGS:
            self.holds(finding)

    def test_rounded(self):
        for exact in numbers_around()[::9]:
            for step in (Number(1), Number(1, 8), Number(100), Number(1, 10 ** 12), Number(3, 7)):
                for way in WAYS:
                    self.holds(rounded_finding(number(exact), step, way))

    def test_meant(self):
        numbers = numbers_around()
        for at, (wish, custom) in enumerate(PAIRS):
            for exact in numbers[at % 40::40]:
                self.holds(meant_finding(number(exact), wish, custom))

    def test_shortest(self):
        for step in (Number(1), Number(1, 8), Number(2, 3), Number(1, 10 ** 12), Number(10 ** 12), Number(5, 7)):
            for count in (0, 1, -1, 2, 3, 17, -1234, 10 ** 30):
                self.holds(shortest_finding(step.times(Number(count)), step))

    def test_sum(self):
        for step in (Number(1), Number(1, 8), Number(5), Number(1, 10 ** 12)):
            for many in (1, 2, 3, 20, 21, 40):
                parts = tuple(Number(7 * at - 30, at % 5 + 1) for at in range(many))
                self.holds(sum_finding(parts, step))
        # The counts of alike parts may be exchanged, the paper be another one.
        for counts in ((1, 0, 0), (0, 1, 0), (0, 0, 1)):
            self.holds(("sum", THIRDS, Number(1), counts, Number(1, 3)))
        self.holds(("sum", (Number(1, 4), Number(3, 4)), Number(1), (0, 1), Number(2, 5)))

    def test_more_parts_than_are_rounded_at_once(self):
        parts = tuple(Number(at, 7) for at in range(2000))
        finding = sum_finding(parts, Number(1))
        self.holds(finding)
        counts = finding[3]
        self.fails(finding[:3] + ((counts[0] + 1,) + counts[1:], finding[4]))
        self.fails(finding[:3] + (counts[:-1], finding[4]))
        self.fails(("sum", (Number(0),) * 10000, Number(1), (0,) * 9999 + (1,), Number(1)))

    def test_parted(self):
        for wish in WISHES:
            if wish.figures is None and not wish.scaled:
                for one in CUSTOMS[:4]:
                    for other in CUSTOMS[1:]:
                        if fits_by(wish, one) and fits_by(wish, other):
                            self.holds(parted_finding(one, other, wish))


class Otherwise(Findings):
    def test_the_name_of_the_sort(self):
        for finding in FINDINGS:
            for sort in SORTS + ("", "Rounded", "rounded ", "sums", "read", "column", None, 0, True, Number(1), ("sum",)):
                if sort != finding[0]:
                    self.fails((sort,) + finding[1:])

    def test_parts_left_out_more_and_exchanged(self):
        for finding in FINDINGS:
            self.fails(list(finding))
            self.fails((finding,))
            self.fails([finding])
            self.fails((finding[0], finding[1:]))
            self.fails(finding + (None,))
            self.fails(finding + finding[-1:])
            self.fails(finding + (finding,))
            for at in range(len(finding)):
                self.fails(finding[:at] + finding[at + 1:])
                self.fails(finding[:at] + (None,) + finding[at:])
                self.fails(finding[:at] + ((finding[at],),) + finding[at + 1:])
                self.fails(finding[:at] + ([finding[at]],) + finding[at + 1:])
                for other in range(at):
                    changed = list(finding)
                    changed[at], changed[other] = changed[other], changed[at]
                    # Customs held together may be exchanged.
                    if changed[at] != finding[at] and not isinstance(finding[other], Custom):
                        self.fails(tuple(changed))

    def test_each_part_of_another_kind(self):
        more = [True, False, 7, "up", "half even", Number(17, 3), Custom(point=";", group=""), Wish(places=(5, 5)), None, ()]
        for finding in FINDINGS:
            for at in range(len(finding)):
                for thing in things() + more:
                    if thing.__class__ is not finding[at].__class__:
                        self.fails(finding[:at] + (thing,) + finding[at + 1:])

    def test_a_list_for_a_tuple_and_a_truth_for_a_number_at_any_depth(self):
        for finding in FINDINGS:
            for at, part in enumerate(finding):
                if isinstance(part, tuple):
                    self.fails(finding[:at] + (list(part),) + finding[at + 1:])
                    for inner in range(len(part)):
                        for thing in (bool(part[inner]), [part[inner]], (part[inner],), str(part[inner]), None):
                            self.fails(finding[:at] + (part[:inner] + (thing,) + part[inner + 1:],) + finding[at + 1:])
                if part.__class__ is int:
                    for thing in (bool(part), str(part), Number(part), None):
                        self.fails(finding[:at] + (thing,) + finding[at + 1:])
                if isinstance(part, Number):
                    for thing in (part.top, str(part), (part.top, part.bottom), True):
                        self.fails(finding[:at] + (thing,) + finding[at + 1:])

    def test_rounded(self):
        one, step, paper = Number(5, 2), Number(1), (2, 3, 2)
        self.holds(("rounded", one, step, "half even", paper))
        self.holds(("rounded", one, step, "down", paper))
        self.fails(("rounded", one, step, "up", paper))
        self.fails(("rounded", one, step, "half up", paper))
        self.fails(("rounded", Number(7, 2), step, "half even", paper))
        self.fails(("rounded", Number(-5, 2), step, "half even", paper))
        self.fails(("rounded", one, HALF, "half even", paper))
        for other in ((2, 3, 3), (3, 2, 2), (2, 2, 2), (2, 3), (2, 3, 2, 2), (1, 3, 2), (2, 4, 2), [2, 3, 2], None, 2):
            self.fails(("rounded", one, step, "half even", other))
        for way in (None, "half", "half-even", "even", "", "UP", True, 0, lambda count, part: False, round_paper, ("up",),
                    ["half even"], WAYS, {"up": 1}, Number(1)):
            self.fails(("rounded", one, step, way, paper))

    def test_steps_that_are_none(self):
        for step in (Number(0), Number(-1), Number(-1, 2), 1, True, "1", None, (1,), [Number(1)], (Number(1),)):
            for paper in ((0, 0, 0), (2, 3, 2), (-3, -2, -2), (-3, -2, -3), (-5, -5, -5)):
                for one in (Number(5, 2), Number(0), Number(5)):
                    self.fails(("rounded", one, step, "half even", paper))
            for triple in ((0, 0, None), (5, 0, None), (-5, 0, None), (1, 1, (0, 1))):
                for one in (Number(0), Number(5), Number(-5)):
                    self.fails(("shortest", one, step) + triple)
            for counts in ((0,), (5,), (-5,), (1,)):
                for paper in (Number(0), Number(1), HALF):
                    for one in (Number(0), Number(5)):
                        self.fails(("sum", (one,), step, counts, paper))

    def test_meant(self):
        wish, one = Wish(), Number(10001, 1000)
        self.holds(("meant", one, wish, PLAIN, "10", Number(10)))
        self.holds(("meant", Number(10), wish, PLAIN, "10", Number(10)))
        for text, told in (
            ("10", one), ("10", Number(11)), ("10.0", Number(10)), ("10.00", Number(10)), ("+10", Number(10)), ("", one),
            ("10.001", one), ("10 ", Number(10)), ("10", 10), ("10", "10"), ("10", None), (10, Number(10)), (None, None),
            ("10", True), (("10",), Number(10)), (["10"], Number(10)), ("10", (Number(10),)), (one, one),
        ):
            self.fails(("meant", one, wish, PLAIN, text, told))
        self.fails(("meant", Number(11), wish, PLAIN, "10", Number(10)))
        self.fails(("meant", one, Wish(places=(1, 2)), PLAIN, "10", Number(10)))
        self.fails(("meant", one, Wish(signs="all"), PLAIN, "10", Number(10)))
        self.fails(("meant", Number(-10), wish, BRACKETS, "-10", Number(-10)))
        self.fails(("meant", one, wish, PLAIN.but(figures="x123456789"), "10", Number(10)))
        self.fails(("meant", one, PLAIN, wish, "10", Number(10)))
        for other in (None, True, "", "places 0 2 half-even minus grouped", (), PLAIN, one):
            self.fails(("meant", one, other, PLAIN, "10", Number(10)))
        for other in (None, True, "", (), wish, one):
            self.fails(("meant", one, wish, other, "10", Number(10)))

    def test_wishes_that_do_not_fit(self):
        for unit in (("", " ,"), ("x\n", ""), ("5", ""), ("", "k~"), ("@", ""), ("", "-")):
            clash = Wish(unit=unit)
            for text in (unit[0] + "1" + unit[1], "1"):
                self.fails(("meant", Number(1), clash, PLAIN, text, Number(1)))
            for told in (None, Number(0), Number(-1, 100)):
                self.fails(("parted", PLAIN, PLAIN, clash, told))
        clash = Wish(unit=("k", ""))
        self.holds(("meant", Number(1), clash, PLAIN, "k1", Number(1)))
        self.fails(("meant", Number(1), clash, WORDS, "k1", Number(1)))
        self.holds(("parted", PLAIN, PLAIN, clash, None))
        for one, other in ((PLAIN, WORDS), (WORDS, PLAIN), (WORDS, WORDS)):
            self.fails(("parted", one, other, clash, None))

    def test_shortest(self):
        self.holds(("shortest", Number(3, 8), Number(1, 8), 4, 1, (0, 1)))
        self.holds(("shortest", Number(1, 3), Number(1, 3), 2, 1, (0, 1)))
        self.holds(("shortest", Number(1, 3), Number(1, 3), 4, 1, (0, 1)))
        for triple in ((5, 1, (0, 1)), (1, 1, (0, 1)), (33, 2, (3, 4)), (3, 1, None), (3, 1, (1, 2)), (0, 0, None)):
            self.fails(("shortest", Number(1, 3), Number(1, 3)) + triple)
        self.fails(("shortest", Number(1, 3), Number(1, 3), (3, 1, (0, 1))))
        # Numbers that are no multiples of the step.
        for one, step in ((Number(1, 3), Number(1, 2)), (Number(5), Number(2)), (Number(1), Number(3)), (HALF, Number(1))):
            for triple in (
                (0, 0, None), (1, 0, None), (2, 0, None), (4, 0, None), (5, 0, None), (6, 0, None), (3, 1, (0, 1)),
                (5, 1, (0, 1)),
            ):
                self.fails(("shortest", one, step) + triple)

    def test_sum(self):
        parts, counts, paper = (Number(1, 4), Number(3, 4), Number(5)), (0, 1, 5), HALF
        self.holds(("sum", parts, Number(1), counts, paper))
        for other in ((1, 0, 5), (0, 1, 6), (0, 0, 5), (1, 1, 5), (0, 1), (0, 1, 5, 0), (0, 2, 4), [0, 1, 5], (), None):
            self.fails(("sum", parts, Number(1), other, paper))
        for other in (Number(0), Number(1), Number(-1, 2), Number(3, 2), 0, 1, True, None, "1/2", (HALF,)):
            self.fails(("sum", parts, Number(1), counts, other))
        for other in (
            list(parts), (), parts[:2], parts + (Number(0),), parts[::-1], (Number(1, 4), Number(3, 4), 5), None, Number(6),
            (Number(1, 4), Number(3, 4), True), (parts,), ((Number(1, 4),), Number(3, 4), Number(5)), "123", 3,
        ):
            self.fails(("sum", other, Number(1), counts, paper))
        self.fails(("sum", (), Number(1), (), Number(1)))
        self.fails(("sum", (), Number(1), (), HALF))
        self.fails(("sum", parts, Number(1), (counts, paper)))
        self.fails(("sum", (1, 2), Number(1), (1, 2), HALF))
        self.fails(("sum", (True,), Number(1), (1,), HALF))

    def test_parted(self):
        wish = Wish()
        self.holds(("parted", PLAIN, BRACKETS, wish, Number(-1, 100)))
        self.holds(("parted", BRACKETS, PLAIN, wish, Number(-1, 100)))
        self.holds(("parted", PLAIN, WORDS, wish, None))
        for told in (None, Number(1, 100), Number(-1), Number(-2, 100), Number(0), -1, True, "alike", "-1/100", False, 0):
            self.fails(("parted", PLAIN, BRACKETS, wish, told))
        for told in (Number(0), Number(1000), Number(-1, 100), False, 0, "alike", "", (), "None"):
            self.fails(("parted", PLAIN, WORDS, wish, told))
        for other in (wish.but(figures=3), wish.but(scaled=True), Wish(figures=1, scaled=True), None, PLAIN, "", ()):
            for told in (None, Number(0), Number(-1, 100), Number(-1, 10), Number(-1)):
                self.fails(("parted", PLAIN, BRACKETS, other, told))
                self.fails(("parted", PLAIN, PLAIN, other, told))
        for thing in (None, wish, Number(1), (), "point .", True):
            self.fails(("parted", thing, PLAIN, wish, None))
            self.fails(("parted", PLAIN, thing, wish, None))
            self.fails(("parted", thing, thing, wish, None))
        self.fails(("parted", wish, PLAIN, PLAIN, None))


class OfAnything(Findings):
    def test_things_of_every_kind(self):
        for thing in things() + [Custom(), Wish(), Number(0), set, finding_holds, *FINDINGS[0][1:]]:
            self.fails(thing)
            self.fails((thing,))
            self.fails([thing])
            for sort in SORTS:
                self.fails((sort, thing))
                for many in range(1, 7):
                    self.fails((sort,) + (thing,) * many)

    def test_names_of_sorts_alone(self):
        for sort in SORTS:
            self.fails(sort)
            self.fails((sort,))
            self.fails((sort,) * 5)
            self.fails({sort: 1})
        for sort in ([], {}, (), [1], {"a": 1}, Custom(), Wish(), Number(1), 10 ** 59, None):
            for finding in FINDINGS[::3]:
                self.fails((sort,) + finding[1:])

    def test_columns_and_others_are_no_findings(self):
        texts = column((Number(1), Number(10)), Wish(), PLAIN)
        self.fails(("column", (Number(1), Number(10)), Wish(), PLAIN, texts))
        self.fails(texts)

    def test_great_numbers_that_were_told(self):
        great = Number(10 ** 4199 + 7)
        self.holds(meant_finding(great, Wish(), PLAIN))
        self.holds(rounded_finding(great, Number(1, 8), "half even"))
        self.holds(rounded_finding(Number(1).over(great), Number(1, 8), "up"))
        self.holds(shortest_finding(great, Number(1, 8)))
        self.holds(sum_finding((great, Number(1, 3), Number(1, 3)), Number(1)))

    def test_nothing_that_is_handed_in_is_changed(self):
        for finding in FINDINGS:
            before = repr([vars(part) if hasattr(part, "__dict__") else part for part in finding])
            self.holds(finding)
            self.holds(finding)
            self.assertEqual(repr([vars(part) if hasattr(part, "__dict__") else part for part in finding]), before)
        thing = ["rounded", Number(5, 2), Number(1), "half even", [2, 3, 2]]
        self.fails(thing)
        self.fails(tuple(thing))
        self.assertEqual(thing, ["rounded", Number(5, 2), Number(1), "half even", [2, 3, 2]])
        self.assertEqual(Fraction(thing[1].top, thing[1].bottom), Fraction(5, 2))
