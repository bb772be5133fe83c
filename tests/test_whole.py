"""What the document promises over the whole program."""

import importlib
import inspect
import os
import subprocess
import sys
import unittest
from fractions import Fraction
from pathlib import Path

from figuretexts.columns import column, read_column
from figuretexts.customs import Custom
from figuretexts.customtexts import read_custom, show_custom
from figuretexts.desk import Desk
from figuretexts.errors import NoBottom, NoFit, NoName, NoRead, NoText, Unsorted
from figuretexts.figures import to_figures
from figuretexts.findings import finding_holds
from figuretexts.kindly import read_by_all, read_kindly
from figuretexts.meaning import meant, stands
from figuretexts.numbers import Number, places_of, power_of, read_number
from figuretexts.options import WAYS
from figuretexts.parting import least_parted
from figuretexts.ranges import range_written, read_range
from figuretexts.reading import read_strictly
from figuretexts.roundchecks import round_holds
from figuretexts.rounding import neighbours, round_paper, rounded
from figuretexts.shortchecks import shortest_holds
from figuretexts.shortest import shortest
from figuretexts.sumchecks import sum_holds
from figuretexts.sums import parts_rounded
from figuretexts.twice import parts_twice
from figuretexts.wishes import Wish
from figuretexts.wishtexts import read_wish, show_wish
from figuretexts.writing import written
from tests.apart import CUSTOMS, PAIRS, WISHES, meant_by, numbers_around
from tests.things import fraction, number

ROOT = Path(__file__).resolve().parent.parent
PLAIN = Custom()

# Of each file of the interface its functions, classes and methods, with how many things they take by their places.
INTERFACE = {
    "errors": {
        "NoText": 1, "Unsorted": 2, "NoBottom": 1, "FigureError": 1, "NoCustom": 1, "NoWish": 1, "NoFit": 1, "NoRead": 1,
        "NoName": 1,
    },
    "numbers": {
        "Number": 2, "Number.more": 1, "Number.less": 1, "Number.times": 1, "Number.over": 1, "Number.below": 1,
        "Number.size": 0, "Number.floor": 0, "read_number": 1, "places_of": 1, "power_of": 1,
    },
    "rounding": {"neighbours": 2, "rounded": 2, "round_paper": 2},
    "roundchecks": {"round_holds": 4},
    "figures": {"to_figures": 2},
    "twice": {"parts_twice": 3},
    "customs": {"Custom": 0, "Custom.but": 0},
    "customtexts": {"show_custom": 1, "read_custom": 1},
    "wishes": {"Wish": 0, "Wish.but": 0},
    "wishtexts": {"show_wish": 1, "read_wish": 1},
    "meaning": {"stands": 3, "meant": 3},
    "writing": {"written": 3},
    "reading": {"read_strictly": 3},
    "kindly": {"read_kindly": 2, "read_by_all": 2},
    "ranges": {"range_written": 4, "read_range": 3},
    "shortest": {"shortest": 2},
    "shortchecks": {"shortest_holds": 3},
    "parting": {"least_parted": 3},
    "sums": {"parts_rounded": 2},
    "sumchecks": {"sum_holds": 3},
    "columns": {"column": 3, "read_column": 3},
    "desk": {"Desk": 0, "Desk.say": 1, "Desk.notes": 0},
    "findings": {"finding_holds": 1},
}
# What is handed in by its name, with what it is where it is left out.
CUSTOM_FIELDS = {
    "point": ".", "group": ",", "sizes": (3,), "least": 1, "minus": ("-", ""), "plus": ("+", ""), "figures": "0123456789",
    "words": (), "between": "~", "about": "@",
}
WISH_FIELDS = {
    "places": (0, 2), "figures": None, "step": None, "way": "half even", "signs": "minus", "grouped": True,
    "scaled": False, "unit": ("", ""),
}
NAMED = {
    "rounded": {"way": "half even"}, "round_paper": {"way": "half even"}, "to_figures": {"way": "half even"},
    "Custom": CUSTOM_FIELDS, "Wish": WISH_FIELDS, "Custom.but": dict.fromkeys(CUSTOM_FIELDS),
    "Wish.but": dict.fromkeys(WISH_FIELDS),
}
# A run of the program whose answers are printed.
SCRIPT = """
from figuretexts.columns import column
from figuretexts.customs import Custom
from figuretexts.desk import Desk
from figuretexts.kindly import read_by_all
from figuretexts.numbers import Number
from figuretexts.parting import least_parted
from figuretexts.sums import parts_rounded
from figuretexts.twice import parts_twice
from figuretexts.wishes import Wish
desk = Desk()
for line in ("custom b point ;", "custom a group none", "wish z places 0 2 up all plain", "wish c places 0 0 up all plain",
             "names", "write 7/2 z b", "parted z a b", "told 4"):
    print(desk.say(line))
print(desk.notes(), least_parted(Custom(), Custom(sizes=(2, 3), minus=("", "-"), least=3), Wish(step=Number(7))))
print(parts_rounded((Number(1, 3), Number(1, 2), Number(1, 3), Number(1, 2)), Number(1)), parts_twice("half odd",
      Number(1, 3), Number(1)), column((Number(1), Number(-5000, 3)), Wish(), Custom()))
print(read_by_all("1,234", (Custom(), Custom(point=",", group=""), Custom(group=";"))))
"""


class Interface(unittest.TestCase):
    def test_each_name_stands_in_its_file_with_what_it_takes(self):
        for file, names in INTERFACE.items():
            module = importlib.import_module("figuretexts." + file)
            for name, many in names.items():
                owner, _, method = name.rpartition(".")
                if owner:
                    self.assertIn(method, vars(getattr(module, owner)), name)
                    told = inspect.signature(vars(getattr(module, owner))[method])
                else:
                    self.assertEqual(getattr(module, name).__module__, module.__name__, name)
                    told = inspect.signature(getattr(module, name))
                fields = [part for part in told.parameters.values() if part.kind != part.KEYWORD_ONLY]
                self.assertEqual(len(fields), many + (owner != ""), name)
                named = {part.name: part.default for part in told.parameters.values() if part.kind == part.KEYWORD_ONLY}
                self.assertEqual(named, NAMED.get(name, {}), name)

    def test_the_fields_are_set_on_each_object(self):
        self.assertEqual({name: getattr(Custom(), name) for name in CUSTOM_FIELDS}, CUSTOM_FIELDS)
        self.assertEqual({name: getattr(Wish(), name) for name in WISH_FIELDS}, WISH_FIELDS)
        self.assertEqual((Number(6, -4).top, Number(6, -4).bottom), (-3, 2))


class Exact(unittest.TestCase):
    def test_nothing_hangs_on_chance_or_on_how_texts_are_hashed(self):
        told = set()
        for seed in ("0", "1", "2", "77"):
            more = {**os.environ, "PYTHONHASHSEED": seed, "PYTHONDONTWRITEBYTECODE": "1"}
            done = subprocess.run(
                [sys.executable, "-c", SCRIPT], cwd=ROOT, env=more, capture_output=True, text=True, check=True)
            told.add(done.stdout)
        self.assertEqual(len(told), 1)
        self.assertIn("a b c z\n3;5\n", told.pop().replace("+", ""))

    def test_the_same_asked_of_the_same_is_told_the_same(self):
        one, step, wish = Number(-2469, 7), Number(1, 4), Wish(figures=4, scaled=True, signs="all")
        custom = Custom(words=((2, "h"),), group=" ", sizes=(2, 1))
        parts = (Number(1, 3), Number(1, 6), Number(1, 3))
        asked = (
            lambda: neighbours(one, step), lambda: rounded(one, step), lambda: round_paper(one, step, way="up"),
            lambda: to_figures(one, 2), lambda: parts_twice("half up", Number(1, 4), Number(1)), lambda: show_wish(wish),
            lambda: show_custom(custom), lambda: stands(one, wish, custom), lambda: written(one, wish, custom),
            lambda: read_strictly("-3 52.7", Wish(), custom), lambda: read_kindly("1 2 3h", custom),
            lambda: read_by_all("1.5", CUSTOMS), lambda: range_written(one, step, wish, custom),
            lambda: shortest(rounded(one, step), step), lambda: least_parted(custom, PLAIN, Wish()),
            lambda: parts_rounded(parts, step), lambda: column(parts, wish, custom),
            lambda: read_column((" 5", "10"), Wish(), custom), lambda: read_range("5~6", Wish(), custom),
        )
        before = (str(one), str(step), repr(vars(wish)), repr(vars(custom)), repr(parts))
        first = [ask() for ask in asked]
        self.assertEqual(first, [ask() for ask in reversed(asked)][::-1])
        self.assertEqual(before, (str(one), str(step), repr(vars(wish)), repr(vars(custom)), repr(parts)))

    def test_two_objects_share_nothing(self):
        step = Number(1, 4)
        wish = Wish(step=step)
        other = wish.but(way="up")
        step.top = 3
        self.assertEqual((wish.step, other.step), (Number(1, 4), Number(1, 4)))
        other.step.top = 5
        self.assertEqual(wish.step, Number(1, 4))
        for told, again in (
            (neighbours(Number(3), Number(1)),) * 2, (read_column(("3", "3"), Wish(), PLAIN),) * 2,
            (read_range("@3", Wish(), PLAIN),) * 2,
        ):
            told[0].top = 9
            self.assertEqual(again[1], Number(3))
        three = Number(3)
        for told in (
            rounded(three, Number(1)), to_figures(three, 2), three.size(), meant(three, Wish(), PLAIN),
            stands(three, Wish(), PLAIN)[0], three.times(Number(1)), three.more(Number(0)),
        ):
            self.assertEqual(told, three)
            told.top = 8
            self.assertEqual(three, Number(3))


class Promise(unittest.TestCase):
    def test_what_is_written_is_read_back(self):
        numbers = numbers_around()
        for at, (wish, custom) in enumerate(PAIRS):
            for exact in numbers[at % 30::30]:
                one = number(exact)
                text = written(one, wish, custom)
                told = read_strictly(text, wish, custom)
                self.assertEqual(fraction(told), meant_by(exact, wish, custom))
                self.assertEqual(written(told, wish, custom), text)
                self.assertEqual(read_column(column((one, told), wish, custom), wish, custom), (told, told))
                self.assertEqual(read_range(range_written(one, one, wish, custom), wish, custom), (told, told))
                self.assertIs(finding_holds(("meant", one, wish, custom, text, told)), True)

    def test_wishes_and_customs_are_read_back(self):
        for custom in CUSTOMS:
            self.assertEqual(read_custom(show_custom(custom)), custom)
        for wish in WISHES:
            self.assertEqual(read_wish(show_wish(wish)), wish.but(unit=("", "")))

    def test_papers_are_read_whoever_wrote_them(self):
        for step in (Number(1), Number(3, 8), Number(1, 10)):
            for top in range(-20, 21):
                one = Number(top, 7)
                for way in WAYS:
                    self.assertIs(round_holds(one, step, way, round_paper(one, step, way=way)), True)
                kept = rounded(one, step)
                self.assertIs(shortest_holds(kept, step, shortest(kept, step)), True)
                parts = (one, Number(top, 3), Number(1, 5))
                self.assertIs(sum_holds(parts, step, parts_rounded(parts, step)), True)

    def test_customs_that_write_all_alike_and_customs_that_part(self):
        for wish in (Wish(), Wish(step=Number(7)), Wish(signs="all", grouped=False)):
            for one in CUSTOMS:
                for other in CUSTOMS:
                    told = least_parted(one, other, wish)
                    for exact in numbers_around()[::40]:
                        told_one = written(number(exact), wish, one) == written(number(exact), wish, other)
                        if told is None:
                            self.assertTrue(told_one)
                        elif abs(meant_by(exact, wish, one)) < abs(fraction(told)):
                            self.assertTrue(told_one)
                    if told is not None:
                        self.assertNotEqual(written(told, wish, one), written(told, wish, other))


class Great(unittest.TestCase):
    """What was told is handed in again, however great."""

    def test_numbers_of_many_figures(self):
        great = Number(1)
        for _ in range(41):
            great = great.times(Number(10 ** 100 + 3))
        for one in (great, great.times(Number(-1, 7)), Number(1).over(great), great.more(Number(1, 8))):
            for wish in (Wish(), Wish(figures=12, signs="all"), Wish(scaled=True, places=(0, 12)), Wish(step=Number(5))):
                custom = Custom(words=((3, "k"), (30, "q")), sizes=(3, 2))
                text = written(one, wish, custom)
                told = read_strictly(text, wish, custom)
                self.assertEqual(told, meant(one, wish, custom))
                self.assertEqual(read_kindly(text, custom)[0], told)
                self.assertEqual(read_column(column((one, Number(1)), wish, custom), wish, custom)[0], told)
                ends = (told, Number(0)) if one.below(Number(0)) else (Number(0), told)
                self.assertEqual(read_range(range_written(*ends, wish, custom), wish, custom), ends)
        self.assertEqual(power_of(great), 4100)
        self.assertEqual(places_of(great), 0)
        self.assertEqual(Fraction(great.top), (10 ** 100 + 3) ** 41)

    def test_a_desk(self):
        desk = Desk()
        text = f"{10 ** 4199 + 7:,}"
        for line in ("custom a point ;", "wish w places 0 2 half-even minus grouped"):
            desk.say(line)
        for line in (f"read w a {text}", f"kindly a {text}", f"kindly a -{text}"):
            self.assertEqual(desk.say(line).lstrip("-"), str(10 ** 4199 + 7))
        self.assertEqual(desk.say("told 4"), str(-(10 ** 4199) - 7))

    def test_a_text_that_was_told_is_a_line_and_a_thing(self):
        desk = Desk()
        desk.say("custom a group '")
        answer = desk.say("kindly a " + column((Number(1234), Number(-1)), Wish(), PLAIN.but(group="'"))[1])
        self.assertEqual(read_number(answer), Number(-1))


class Refusals(unittest.TestCase):
    def refused(self, kind, ask, *parts):
        with self.assertRaises(kind) as caught:
            ask(*parts)
        self.assertIs(caught.exception.__class__, kind)
        return caught.exception

    def test_the_one_that_its_paragraph_names_first(self):
        clash = Wish(unit=("a.", ","))
        self.assertEqual(self.refused(NoFit, written, Number(1), clash, PLAIN).thing, ".")
        self.assertEqual(self.refused(NoFit, read_strictly, None, clash, PLAIN).thing, ".")
        self.assertEqual(self.refused(NoFit, read_range, [], clash, PLAIN).thing, ".")
        self.assertEqual(self.refused(NoFit, read_column, (), clash, PLAIN).thing, ".")
        told = self.refused(Unsorted, range_written, Number(2), Number(1), clash, PLAIN)
        self.assertEqual((told.low, told.high), (Number(2), Number(1)))
        self.refused(NoFit, range_written, Number(1), Number(2), clash, PLAIN)
        self.assertEqual(self.refused(NoFit, least_parted, Custom(point=";", group="'"), PLAIN, clash).thing, ".")
        self.assertEqual(self.refused(NoFit, least_parted, Custom(point="a"), PLAIN, clash).thing, "a")
        desk = Desk()
        self.assertEqual(self.refused(NoText, desk.say, "write 2/4 x y").at, 0)
        self.assertEqual(self.refused(NoName, desk.say, "write 1/2 x y").thing, "x")
        self.assertEqual(self.refused(NoBottom, Number(7, 2).over, Number(0)).top, 7)
        self.assertEqual(self.refused(NoBottom, Number, 7, 0).top, 7)

    def test_what_was_handed_in_is_told(self):
        for thing in ([1], {"a": 1}, ("1", "2 "), "x", None, Number(1)):
            for ask in (read_strictly, read_range, read_column):
                self.assertIs(self.refused(NoRead, ask, thing, Wish(), PLAIN).thing, thing)
            self.assertIs(self.refused(NoRead, read_kindly, thing, PLAIN).thing, thing)
