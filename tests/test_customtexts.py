"""The texts of customs: written, read back, and what is none."""

import re
import unittest

from figuretexts import customtexts
from figuretexts.customs import Custom
from figuretexts.customtexts import read_custom, show_custom
from figuretexts.errors import NoText
from tests.test_customs import DEFAULTS, NAMES, RIGHT, fields_of
from tests.things import things

PLAIN = "\n".join((
    "point .", "group ,", "sizes 3", "least 1", "minus - none", "plus + none", "figures 0123456789", "words none",
    "between ~", "about @",
))
FULL = Custom(
    point=",", group=" ", sizes=(3, 2, 6, 1), least=4, minus=("(", ")"), plus=("", "++"), figures="ABCDEFGHIJ",
    words=((1, "k"), (2, "1"), (9, "kk"), (10, "m2k"), (29, "2"), (30, "n")), between="...",
    about="=!",
)
FULL_TEXT = "\n".join((
    "point ,", "group blank", "sizes 3 2 6 1", "least 4", "minus ( )", "plus none ++", "figures ABCDEFGHIJ",
    "words 1 k 2 1 9 kk 10 m2k 29 2 30 n", "between ...", "about =!",
))
# Customs of which the texts are changed a little in many ways.
SOME = (
    Custom(), FULL, Custom(group="", words=((3, "k"),)), Custom(sizes=(6, 1), least=2, minus=("", "-"), group="'"),
    Custom(words=((1, "a"), (2, "b"), (3, "c"), (4, "d"), (5, "e"), (30, "f")), plus=("+", "p")),
)


def line_of(text, name):
    return text.split("\n")[NAMES.index(name)]


def with_line(text, at, line):
    lines = text.split("\n")
    return "\n".join(lines[:at] + [line] + lines[at + 1:])


# A reader made apart from the program: what each line looks like, the signs in it, and what else it must be.
SIGN = r"[!-~]"
LINES = (
    rf"point ({SIGN})", rf"group (?:none|blank|({SIGN}))", r"sizes [1-6](?: [1-6]){0,3}", r"least [1-4]",
    rf"minus (?!none none$)(?:none|({SIGN}{{1,3}})) (?:none|({SIGN}{{1,3}}))",
    rf"plus (?!none none$)(?:none|({SIGN}{{1,3}})) (?:none|({SIGN}{{1,3}}))",
    rf"figures ({SIGN}{{10}})",
    rf"words (?:none|(?:[1-9]|[12][0-9]|30) {SIGN}{{1,3}}(?: (?:[1-9]|[12][0-9]|30) {SIGN}{{1,3}}){{0,5}})",
    rf"between ({SIGN}{{1,3}})", rf"about ({SIGN}{{1,3}})",
)


def wrong_line(text):
    """The number that NoText tells of this text; None where it is one of a custom."""
    seen = set()
    lines = text.split("\n")
    for at, line in enumerate(lines):
        found = at < len(LINES) and re.fullmatch(LINES[at], line)
        if not found:
            return at
        signs = "".join(part or "" for part in found.groups())
        if line == "group blank":
            signs = " "
        if line.startswith("figures") and len(set(signs)) < 10:
            return at
        if line.startswith("words") and line != "words none":
            parts = line.split(" ")[1:]
            powers, words = [int(part) for part in parts[::2]], parts[1::2]
            if powers != sorted(set(powers)) or len(set(words)) < len(words):
                return at
            signs = "".join(words)
        if seen & set(signs):
            return at
        seen |= set(signs)
    return None if len(lines) == len(LINES) else len(lines)


class Refusing(unittest.TestCase):
    def refused(self, thing, at):
        with self.assertRaises(NoText, msg=repr(thing)[:300]) as caught:
            read_custom(thing)
        self.assertEqual(caught.exception.at, at, repr(thing)[:300])
        self.assertIs(caught.exception.at.__class__, int)


class Written(unittest.TestCase):
    def test_whole_texts(self):
        self.assertEqual(show_custom(Custom()), PLAIN)
        self.assertEqual(show_custom(FULL), FULL_TEXT)

    def test_each_line(self):
        for name, told in (
            ("point", {".": ".", "'": "'", "n": "n"}),
            ("group", {",": ",", "": "none", " ": "blank", "n": "n", "b": "b"}),
            ("sizes", {(3,): "3", (3, 2): "3 2", (1, 6, 1): "1 6 1", (6, 5, 4, 3): "6 5 4 3", (2, 2): "2 2"}),
            ("least", {1: "1", 2: "2", 3: "3", 4: "4"}),
            ("minus", {("-", ""): "- none", ("", "-"): "none -", ("(", ")"): "( )", ("---", "abc"): "--- abc"}),
            ("plus", {("+", ""): "+ none", ("", "p+p"): "none p+p", ("no", "ne"): "no ne"}),
            ("figures", {"0123456789": "0123456789", "ABCDEFGHIJ": "ABCDEFGHIJ"}),
            ("words", {
                (): "none", ((3, "k"),): "3 k", ((30, "non"),): "30 non", ((3, "k"), (12, "kkk")): "3 k 12 kkk",
                ((1, "k"), (2, "l"), (3, "m"), (4, "n"), (5, "o"), (6, "p")): "1 k 2 l 3 m 4 n 5 o 6 p",
            }),
            ("between", {"~": "~", "to": "to", "___": "___"}),
            ("about", {"@": "@", "ca": "ca", "@=@": "@=@"}),
        ):
            for field, line in told.items():
                text = show_custom(Custom(**{name: field}))
                self.assertEqual(text, with_line(PLAIN, NAMES.index(name), f"{name} {line}"))
                self.assertEqual(fields_of(read_custom(text)), {**DEFAULTS, name: field})

    def test_ten_lines_and_no_line_end_behind_the_last(self):
        for custom in SOME:
            text = show_custom(custom)
            self.assertEqual([line.split(" ")[0] for line in text.split("\n")], list(NAMES))
            self.assertFalse(text.endswith("\n"))


class ReadBack(Refusing):
    def test_each_field_of_each_kind(self):
        for name, kinds in RIGHT.items():
            for kind in kinds:
                custom = Custom(**{name: kind})
                told = read_custom(show_custom(custom))
                self.assertIsInstance(told, Custom)
                self.assertEqual(fields_of(told), {**DEFAULTS, name: kind})
                self.assertTrue(told == custom and told is not custom)

    def test_all_fields_at_once(self):
        self.assertEqual(fields_of(read_custom(FULL_TEXT)), fields_of(FULL))
        for custom in SOME:
            self.assertEqual(read_custom(show_custom(custom)), custom)
            self.assertEqual(show_custom(read_custom(show_custom(custom))), show_custom(custom))

    def test_the_kinds_of_what_is_read(self):
        told = read_custom(FULL_TEXT)
        self.assertIs(told.sizes.__class__, tuple)
        self.assertTrue(all(length.__class__ is int for length in told.sizes))
        self.assertIs(told.least.__class__, int)
        self.assertTrue(all(pair.__class__ is tuple for pair in (told.minus, told.plus, told.words) + told.words))


class NoSuchText(Refusing):
    def test_no_text_at_all(self):
        for thing in things():
            self.refused(thing, wrong_line(thing) if isinstance(thing, str) else 0)
        for thing in (PLAIN.split("\n"), tuple(PLAIN.split("\n")), Custom(), None, 0, {}, [PLAIN], (PLAIN,)):
            self.refused(thing, 0)
        self.refused("", 0)
        self.refused("\n" * 9, 0)
        self.refused("0" * 4000, 0)
        self.refused("\n" * 4000, 0)

    def test_a_line_left_out_twice_exchanged_one_more(self):
        for custom in SOME:
            lines = show_custom(custom).split("\n")
            for at in range(10):
                self.refused("\n".join(lines[:at] + lines[at + 1:]), at)
                self.refused("\n".join(lines[:at + 1] + lines[at:]), at + 1)
                self.refused("\n".join(lines[:at] + [""] + lines[at:]), at)
                for other in range(at + 1, 10):
                    mixed = list(lines)
                    mixed[at], mixed[other] = mixed[other], mixed[at]
                    self.refused("\n".join(mixed), at)
            for more in ("", " ", "about @", "point .", "more", "\n\n"):
                self.refused("\n".join(lines + [more]), 10)

    def test_lines_that_lack_at_the_end(self):
        for custom in SOME:
            lines = show_custom(custom).split("\n")
            for many in range(1, 10):
                self.refused("\n".join(lines[:many]), many)
                self.refused("\n".join(lines[:many]) + "\n", many)
                self.refused("\n" + "\n".join(lines[:many]), 0)

    def test_lines_that_are_none_such(self):
        for name, lines in {
            "point": (
                "point", "point ", "point  ", "point  .", "point . ", " point .", "point ..", "point none",
                "point blank",
                "Point .", "points .", ".", "point. ", "point\t.", "dot .", "group ,",
            ),
            "group": (
                "group", "group ", "group  ", "group   ", "group  ,", "group , ", "group ,,", "group None",
                "group blan",
                "group none ", "group blank ", "group none none", "group  none", " group ,", "group nones",
            ),
            "sizes": (
                "sizes", "sizes ", "sizes none", "sizes 0", "sizes 7", "sizes 03", "sizes 3 03", "sizes 10", "sizes 33",
                "sizes 3  2", "sizes 3 2 ", "sizes  3", "sizes 3,2", "sizes 3 2 2 2 2", "sizes -3", "sizes +3",
                "sizes 3 x",
                "sizes 3 0", "sizes 3 7", "sizes None", "sizes True", "sizes " + "3" * 3980, "sizes " + "3" * 5000,
                "sizes \u00b3", "sizes 3 -2", "sizes 3.",
            ),
            "least": (
                "least", "least ", "least 0", "least 5", "least 01", "least 10", "least 1 ", "least  1", "least 1 1",
                "least none", "least -1", "least x", "least 1.", "least 00", "least +1", "least \u00b2", "least \u0661",
                "least 11", "least 111",
            ),
            "minus": (
                "minus", "minus ", "minus -", "minus - ", "minus  -", "minus  ", "minus none", "minus none none",
                "minus -  ",
                "minus - none ", "minus  - none", "minus -  none", "minus - none none", "minus ---- none",
                "minus none ----",
                "minus None -", "minus - - -", "minus - noone", "minus nonee -",
            ),
            "plus": (
                "plus", "plus ", "plus +", "plus + ", "plus  +", "plus none none", "plus +  none", "plus + none ",
                "plus ++++ none", "plus none", "plus + + +", "minus + none", "plus None +",
            ),
            "figures": (
                "figures", "figures ", "figures 012345678", "figures 01234567899", "figures 0123456788", "figures none",
                "figures 01234 6789", "figures 0123456789 ", "figures  0123456789", "figures 012345678 ",
                "figures 1" * 2,
                "figures 0 1 2 3 4 5 6 7 8 9",
            ),
            "words": (
                "words", "words ", "words none ", "words  none", "words None", "words 3", "words 3 ", "words k",
                "words k 3",
                "words 3k", "words 0 k", "words 31 k", "words 03 k", "words 3 k ", "words 3  k", "words  3 k",
                "words 3 k 6",
                "words 3 k 6 ", "words 3 k  6 m", "words 3 k 3 m", "words 6 k 3 m", "words 3 k 6 k", "words 3 mill",
                "words 3 k none", "words none 3 k", "words 3 k 06 m", "words \u00b3 k", "words " + "3" * 5000 + " k",
                "words 100 k", "words -3 k", "words +3 k",
                "words 1 k 2 l 3 m 4 n 5 o 6 p 7 q", "words None k", "words 3 k 31 m", "words 3 k,6 m", "words 3 k 6 ",
            ),
            "between": ("between", "between ", "between  ", "between  ~", "between ~ ", "between ~~~~", "between ~ ~"),
            "about": ("about", "about ", "about  ", "about  @", "about @ ", "about @@@@", "about @ @", "about none"),
        }.items():
            at = NAMES.index(name)
            for line in lines:
                self.refused(with_line(PLAIN, at, line), at)

    def test_a_sign_of_a_line_ahead(self):
        wear = {
            "point": ["x"], "group": ["x"], "minus": ["x none", "none x", "!x !", "! !!x"],
            "plus": ["x none", "none x", "?x ?", "? ??x"], "figures": ["xABCDEFGHI", "ABCDEFGHIx", "ABCDxEFGHI"],
            "words": ["3 x", "3 k 6 kx", "3 xk 6 m"], "between": ["x", "<x", "<>x"], "about": ["x", ":x", "x:;"],
        }
        sure = PLAIN
        for name, line in (
            ("minus", "minus ! !"), ("plus", "plus ? ?"), ("figures", "figures ABCDEFGHIJ"), ("words", "words 3 k 6 m"),
            ("between", "between <>"), ("about", "about :;"),
        ):
            sure = with_line(sure, NAMES.index(name), line)
        self.assertIsNone(wrong_line(sure))
        names = list(wear)
        for number, ahead in enumerate(names):
            for later in names[number + 1:]:
                for one in wear[ahead]:
                    for other in wear[later]:
                        first = with_line(sure, NAMES.index(ahead), f"{ahead} {one}")
                        second = with_line(sure, NAMES.index(later), f"{later} {other}")
                        self.assertEqual(show_custom(read_custom(first)), first)
                        self.assertEqual(show_custom(read_custom(second)), second)
                        self.refused(with_line(first, NAMES.index(later), f"{later} {other}"), NAMES.index(later))

    def test_within_one_line_signs_may_stand_again(self):
        for name, line in (
            ("minus", "minus -- -"), ("plus", "plus +++ +++"), ("words", "words 3 kk 6 kkk 7 k"), ("about", "about @@"),
            ("between", "between ~~~"), ("words", "words 3 3 6 6"),
        ):
            text = with_line(with_line(PLAIN, 6, "figures ABCDEFGHIJ"), NAMES.index(name), line)
            self.assertEqual(show_custom(read_custom(text)), text)

    def test_of_several_wrong_lines_the_first_is_told(self):
        wrong = (
            "point ", "group .", "sizes 0", "least 0", "minus .", "plus , none", "figures -", "words 3 +", "between 0",
            "@",
        )
        for at in range(10):
            for later in range(at + 1, 10):
                text = with_line(with_line(PLAIN, at, wrong[at]), later, wrong[later])
                self.refused(text, at)
                self.refused(text + "\nmore", at)
                self.refused("\n".join(text.split("\n")[:later + 1]), at)
        # The lines behind one that is wrong by itself clash with none of its signs.
        self.refused(with_line(with_line(PLAIN, 0, "point .,"), 1, "group ,"), 0)

    def test_blanks_and_line_ends(self):
        for custom in SOME:
            text = show_custom(custom)
            for at, line in enumerate(text.split("\n")):
                self.refused(with_line(text, at, line + " "), at)
                self.refused(with_line(text, at, " " + line), at)
                self.refused(with_line(text, at, line.replace(" ", "  ", 1)), at)
                self.refused(with_line(text, at, line.replace(" ", "", 1)), at)
            self.refused(text + "\n", 10)
            self.refused("\n" + text, 0)
            self.refused(text.replace("\n", "\n\n", 1), 1)
            self.refused(text.replace("\n", " "), 0)
            self.refused(text + "\n" + text, 10)

    def test_held_against_a_reader_made_apart(self):
        signs = " \n0126n.-+kx@"
        for custom in SOME:
            text = show_custom(custom)
            self.assertIsNone(wrong_line(text))
            changed = [text[:at] + text[at + 1:] for at in range(len(text))]
            for at in range(len(text) + 1):
                for sign in signs:
                    changed += [text[:at] + sign + text[at:], text[:at] + sign + text[at + 1:]]
            for other in changed:
                at = wrong_line(other)
                if at is None:
                    self.assertEqual(show_custom(read_custom(other)), other)
                else:
                    self.refused(other, at)


class Module(unittest.TestCase):
    def test_both_stand_in_the_file(self):
        for function in (show_custom, read_custom):
            self.assertEqual(function.__module__, "figuretexts.customtexts")
        self.assertIs(customtexts.show_custom, show_custom)

    def test_nothing_is_changed_and_the_same_is_told(self):
        before = fields_of(FULL)
        one, other = read_custom(show_custom(FULL)), read_custom(show_custom(FULL))
        self.assertEqual(fields_of(FULL), before)
        self.assertTrue(one == other and one is not other)
        one.point = "!"
        self.assertEqual((other.point, FULL.point), (",", ","))
        thing = ["point ."]
        with self.assertRaises(NoText):
            read_custom(thing)
        self.assertEqual(thing, ["point ."])
