"""Customs: their fields, what each must be, which is refused first, but(..)."""

import inspect
import unittest

from figuretexts.customs import Custom
from figuretexts.errors import FigureError, NoCustom
from figuretexts.numbers import Number
from tests.things import things

DEFAULTS = {
    "point": ".", "group": ",", "sizes": (3,), "least": 1, "minus": ("-", ""), "plus": ("+", ""),
    "figures": "0123456789", "words": (), "between": "~", "about": "@",
}
NAMES = tuple(DEFAULTS)

# Of each field some that are so, all of signs that stand in no other field's.
RIGHT = {
    "point": [".", "'", "/"],
    "group": [",", "", " ", "_"],
    "sizes": [(3,), (1,), (6,), (3, 2), (1, 6, 1), (6, 5, 4, 3), (2, 2, 2, 2)],
    "least": [1, 2, 3, 4],
    "minus": [("-", ""), ("", "-"), ("(", ")"), ("---", "---"), ("", "abc"), ("-", "-"), ("a-b", "")],
    "plus": [("+", ""), ("", "+"), ("[", "]"), ("+++", "+++"), ("d", "dd"), ("", "def")],
    "figures": ["0123456789", "9876543210", "ABCDEFGHIJ", "01234S6789"],
    "words": [
        (), ((1, "k"),), ((30, "k"),), ((1, "k"), (30, "kk")), ((3, "k"), (6, "m"), (9, "mk")), ((3, "mkm"),),
        ((1, "k"), (2, "l"), (3, "m"), (4, "n"), (5, "o"), (6, "p")),
    ],
    "between": ["~", "<>", "...".replace(".", ":"), "to"],
    "about": ["@", "=", "@@@", "#&"],
}

# Of each field some that aren't so, whatever the others are.
WRONG = {
    "point": ["", "..", ".;", " ", "\n", None, 1, True, ("!",), ["!"], {}, Number(1)],
    "group": [",,", "  ", "\n", " \n", "!!", None, 0, False, (), (" ",), [","], [], {}, Number(1)],
    "sizes": [
        (), (3, 3, 3, 3, 3), (0,), (7,), (3, 0), (3, 7), (-1,), (True,), (3, True), (False,), ("3",), (None,), ((3,),),
        (3, (2,)), ([3],), [3], [], 3, "3", "333", None, {3: 3}, {}, Number(3), (Number(3),), (10 ** 59,),
    ],
    "least": [0, 5, -1, 10 ** 59, True, False, None, "1", "", (1,), (), [1], {}, Number(1)],
    "minus": [
        ("", ""), ("-",), (), ("-", "", ""), ("----", ""), ("", "----"), (" ", ""), ("", " "), ("- ", ""), ("-", "\n"),
        ("-\n", ""), "-", "--", "", ["-", ""], ("-", None), (None, "-"), (None, None), ("-", 1), (1, "-"), (True, ""),
        (("-",), ""), ("-", ("",)), ("-", [""]), None, 1, {}, {"-": ""}, {"-": 1, "": 2}, Number(1), (Number(1), "-"),
    ],
    "figures": [
        "", "012345678", "0123456789a", "0123456788", "0023456789", "01234 6789", "012345678\n", " 123456789", None,
        123456789, True, tuple("0123456789"), list("0123456789"), {}, Number(123456789), "0000000000",
    ],
    "words": [
        ((0, "k"),), ((31, "k"),), ((-3, "k"),), ((True, "k"),), ((False, "k"),), (("3", "k"),), ((None, "k"),),
        ((Number(3), "k"),), ((3, ""),), ((3, "mill"),), ((3, "k "),), ((3, " "),), ((3, "\n"),), ((3, None),),
        ((3, 3),), ((3, ("k",)),), ((3, ["k"]),), ((3,),), ((3, "k", "l"),), ((),), (None,), ("3k",), (3,), (3, "k"),
        ("3", "k"), ([3, "k"],), [(3, "k")], [], {}, {3: "k"}, "", "k", None, 0, 3, True, Number(3),
        ((6, "m"), (3, "k")), ((3, "k"), (3, "m")), ((3, "k"), (3, "k")), ((3, "k"), (6, "k")), ((3, "k"), (2, "m")),
        ((1, "k"), (2, "l"), (3, "m"), (4, "n"), (5, "o"), (6, "p"), (7, "q")), ((3, "k"), (6, "m"), (9, "k")),
        ((3, "k"), (9, "m"), (6, "n")), ((3, "k"), (31, "m")), ((3, "k"), "6m"), ((3, "k"), (6, "m"), None),
    ],
    "between": ["", "<>-<", "~~~~", " ", "~ ~", "\n", "~\n", None, 1, True, ("~",), ["~"], (), [], {}, Number(1)],
}
WRONG["plus"] = [thing for thing in WRONG["minus"]]
WRONG["about"] = WRONG["between"]

# Of each field that has signs, how it is told with just this sign in it (words: behind a power).
WITH = {
    "point": lambda sign: [sign],
    "group": lambda sign: [sign],
    "minus": lambda sign: [(sign, ""), ("", sign), ("!" + sign, "!"), ("!", "!!" + sign)],
    "plus": lambda sign: [(sign, ""), ("", sign), ("?" + sign, "?"), ("?", "??" + sign)],
    "figures": lambda sign: [sign + "ABCDEFGHI", "ABCDEFGHI" + sign, "ABCD" + sign + "EFGHI"],
    "words": lambda sign: [((3, sign),), ((3, "k"), (6, "k" + sign)), ((3, sign + "k"), (6, "m"))],
    "between": lambda sign: [sign, "<" + sign, "<>" + sign],
    "about": lambda sign: [sign, ":" + sign, sign + ":;"],
}


def fields_of(custom):
    return {name: getattr(custom, name) for name in NAMES}


class Refusing(unittest.TestCase):
    def refused(self, name, ask, **fields):
        with self.assertRaises(NoCustom, msg=repr(fields)[:200]) as caught:
            ask(**fields)
        self.assertEqual(caught.exception.thing, name, repr(fields)[:200])


class Fields(Refusing):
    def test_the_defaults(self):
        self.assertEqual(fields_of(Custom()), DEFAULTS)

    def test_each_field_is_handed_in_by_name_in_any_order(self):
        told = {
            "about": "ca", "between": "..", "words": ((3, "k"), (6, "m")), "figures": "ABCDEFGHIJ", "plus": ("", "p"),
            "minus": ("(", ")"), "least": 2, "sizes": (3, 2), "group": " ", "point": "'",
        }
        self.assertEqual(fields_of(Custom(**told)), told)
        with self.assertRaises(TypeError):
            Custom(".")
        for name in NAMES:
            fields = inspect.signature(Custom).parameters
            self.assertEqual(fields[name].kind, inspect.Parameter.KEYWORD_ONLY)
        self.assertEqual(tuple(inspect.signature(Custom).parameters), NAMES)

    def test_what_is_right(self):
        for name, kinds in RIGHT.items():
            for kind in kinds:
                custom = Custom(**{name: kind})
                self.assertEqual(fields_of(custom), {**DEFAULTS, name: kind})

    def test_what_is_wrong(self):
        for name, kinds in WRONG.items():
            for kind in kinds:
                self.refused(name, Custom, **{name: kind})

    def test_things_of_every_kind(self):
        # A "~" as point or group is so, and clashes with between.
        fine = {
            "point": ["~"], "group": ["", " ", "~"], "sizes": [(1,), (1, 2, 3)], "least": [1], "minus": [("-", "")],
            "plus": [], "figures": [], "words": [(), ((3, "k"),)], "between": ["~"], "about": [],
        }
        for name in NAMES:
            for thing in things():
                if not [right for right in fine[name] if right == thing and right.__class__ is thing.__class__]:
                    self.refused(name, Custom, **{name: thing})

    def test_a_blank_is_right_as_group_alone(self):
        self.assertEqual(Custom(group=" ").group, " ")
        for name in WITH:
            if name != "group":
                for kind in WITH[name](" "):
                    self.refused(name, Custom, **{name: kind})

    def test_a_line_end_is_nowhere_right(self):
        for name in WITH:
            for kind in WITH[name]("\n"):
                self.refused(name, Custom, **{name: kind})

    def test_the_refusal_is_a_figure_error(self):
        with self.assertRaises(FigureError):
            Custom(point="")

    def test_two_objects_share_nothing(self):
        one, other = Custom(), Custom()
        one.point = "!"
        one.sizes = (1,)
        self.assertEqual(fields_of(other), DEFAULTS)
        self.assertEqual(fields_of(Custom()), DEFAULTS)


class Clashes(Refusing):
    def test_a_sign_of_one_field_in_a_later_one(self):
        names = tuple(WITH)
        sure = {"point": ".", "group": ",", "minus": ("!", "!"), "plus": ("?", "?"), "figures": "ABCDEFGHIJ"}
        sure.update({"words": ((3, "k"), (6, "m")), "between": "<>", "about": ":;"})
        for at, ahead in enumerate(names):
            for later in names[at + 1:]:
                for one in WITH[ahead]("x"):
                    for other in WITH[later]("x"):
                        self.assertEqual(getattr(Custom(**{**sure, ahead: one}), ahead), one)
                        self.assertEqual(getattr(Custom(**{**sure, later: other}), later), other)
                        self.refused(later, Custom, **{**sure, ahead: one, later: other})

    def test_a_sign_of_a_default_in_a_field_that_is_told(self):
        self.refused("group", Custom, point=",")
        self.refused("group", Custom, group=".")
        self.refused("minus", Custom, point="-")
        self.refused("plus", Custom, minus=("+", ""))
        self.refused("figures", Custom, minus=("", "a5b"))
        self.refused("figures", Custom, point="0")
        self.refused("between", Custom, words=((3, "~"),))
        self.refused("about", Custom, between="@")
        self.refused("about", Custom, group="@")
        self.refused("words", Custom, words=((3, "k"), (6, "k9")))

    def test_within_one_field_signs_may_stand_again(self):
        for fields in (
            {"minus": ("--", "-")}, {"plus": ("+++", "+++")}, {"words": ((3, "kk"), (6, "kkk"), (7, "k"))},
            {"between": "~~~"}, {"about": "@@"},
        ):
            self.assertEqual(fields_of(Custom(**fields)), {**DEFAULTS, **fields})

    def test_signs_change_places(self):
        self.assertEqual(Custom(point=",", group=".").point, ",")
        self.assertEqual(Custom(minus=("+", ""), plus=("-", "")).minus, ("+", ""))
        self.assertEqual(Custom(between="@", about="~").about, "~")

    def test_of_two_wrong_fields_the_first_is_told(self):
        for at, ahead in enumerate(NAMES):
            for later in NAMES[at + 1:]:
                for one in WRONG[ahead][:4]:
                    for other in WRONG[later][:4]:
                        self.refused(ahead, Custom, **{later: other, ahead: one})

    def test_a_wrong_field_ahead_of_a_clash_and_behind_it(self):
        self.refused("group", Custom, group=".", sizes=())
        self.refused("point", Custom, point="", group="-")
        self.refused("least", Custom, least=0, minus=(".", ""))
        self.refused("minus", Custom, minus=(".", ""), plus=(".", ""))
        self.refused("plus", Custom, plus=("", ","), figures="0")
        self.refused("plus", Custom, plus=("", ""), figures="0-23456789")
        self.refused("words", Custom, words=((3, "k."),), about="k")
        self.refused("words", Custom, words=((3, "."), (6, ".")), about="k")


class Equal(unittest.TestCase):
    def test_customs_of_the_same_fields_are_equal(self):
        self.assertTrue(Custom() == Custom())
        self.assertFalse(Custom() != Custom())
        self.assertTrue(Custom(sizes=(3, 2), group="") == Custom(group="", sizes=(3, 2)))

    def test_customs_that_differ_in_one_field_are_not(self):
        for name, kinds in RIGHT.items():
            for kind in kinds:
                for other in kinds:
                    one, two = Custom(**{name: kind}), Custom(**{name: other})
                    self.assertIs(one == two, kind == other)
                    self.assertIs(one != two, kind != other)

    def test_a_custom_is_equal_to_nothing_else(self):
        custom = Custom()
        for thing in things() + [tuple(DEFAULTS.values()), DEFAULTS, list(DEFAULTS.items()), "Custom"]:
            self.assertIs(custom == thing, False)
            self.assertIs(thing == custom, False)
            self.assertIs(custom != thing, True)


class But(Refusing):
    def test_each_field_otherwise(self):
        for name, kinds in RIGHT.items():
            for kind in kinds:
                custom = Custom()
                told = custom.but(**{name: kind})
                self.assertIsInstance(told, Custom)
                self.assertEqual(fields_of(told), {**DEFAULTS, name: kind})
                self.assertEqual(fields_of(custom), DEFAULTS)

    def test_the_other_fields_stay(self):
        full = {name: kinds[1] for name, kinds in RIGHT.items()}
        custom = Custom(**full)
        for name, kinds in RIGHT.items():
            for kind in kinds:
                self.assertEqual(fields_of(custom.but(**{name: kind})), {**full, name: kind})
        self.assertEqual(fields_of(custom), full)

    def test_several_fields_at_once(self):
        told = Custom().but(group=".", point=",", words=((3, "k"),))
        self.assertEqual(fields_of(told), {**DEFAULTS, "group": ".", "point": ",", "words": ((3, "k"),)})
        self.assertEqual(told.but(group="").group, "")
        self.assertEqual(told.but(words=()).words, ())

    def test_none_and_nothing_leave_all_as_it_is(self):
        full = {name: kinds[1] for name, kinds in RIGHT.items()}
        custom = Custom(**full)
        for told in (custom.but(), custom.but(**{name: None for name in NAMES})):
            self.assertEqual(told, custom)
            self.assertIsNot(told, custom)
        for name in NAMES:
            self.assertEqual(fields_of(custom.but(**{name: None})), full)

    def test_refused(self):
        custom = Custom(group="", between="to")
        before = fields_of(custom)
        for name, kinds in WRONG.items():
            for kind in kinds:
                if kind is not None:
                    self.refused(name, custom.but, **{name: kind})
        self.refused("minus", custom.but, point="-")
        self.refused("between", custom.but, minus=("o", ""))
        self.refused("about", custom.but, words=((3, "@"),))
        self.refused("point", custom.but, about="", point="")
        self.refused("group", custom.but, group=".")
        self.assertEqual(fields_of(custom), before)
        with self.assertRaises(TypeError):
            custom.but(".")

    def test_each_is_handed_in_by_name(self):
        fields = inspect.signature(Custom.but).parameters
        self.assertEqual(tuple(fields), ("self",) + NAMES)
        self.assertTrue(all(fields[name].kind == inspect.Parameter.KEYWORD_ONLY for name in NAMES))

    def test_methods_stand_in_the_class_itself(self):
        self.assertIn("but", vars(Custom))
        self.assertIn("__eq__", vars(Custom))
        self.assertEqual(Custom.__module__, "figuretexts.customs")

    def test_nothing_that_is_handed_in_is_changed(self):
        sizes, words = [3], {3: "k"}
        self.refused("sizes", Custom, sizes=sizes, words=words)
        self.refused("words", Custom, words=words)
        self.assertEqual((sizes, words), ([3], {3: "k"}))
