"""Wishes: their fields, what each must be, which is refused first, but(..)."""

import inspect
import unittest

from figuretexts.customs import Custom
from figuretexts.errors import FigureError, NoWish
from figuretexts.numbers import Number
from figuretexts.options import WAYS
from figuretexts.wishes import Wish
from tests.things import things

DEFAULTS = {
    "places": (0, 2), "figures": None, "step": None, "way": "half even", "signs": "minus", "grouped": True,
    "scaled": False, "unit": ("", ""),
}
NAMES = tuple(DEFAULTS)

# Of each field some that are so beside the others' defaults.
RIGHT = {
    "places": [(0, 2), (0, 0), (12, 12), (0, 12), (3, 7), (5, 5), (1, 1)],
    "figures": [None] + list(range(1, 13)),
    "step": [
        None, Number(1), Number(1, 2), Number(1, 4), Number(1, 100), Number(3, 25), Number(10 ** 12), Number(7),
        Number(10 ** 12 * 100 + 1, 100),
    ],
    "way": list(WAYS),
    "signs": ["minus", "all"],
    "grouped": [True, False],
    "scaled": [False, True],
    "unit": [
        ("", ""), ("$", ""), ("", "m"), ("$$$$$$", "mmmmmm"), ("a ", " b"), ("a   ", "   b"), ("a b c ", ""), ("",
        " b c d"),
        ("\n", "\n"), ("\n ", " \n"), ("5", "."), ("x", "x"),
    ],
}

# Of each field some that aren't so, whatever the others are (of step: beside two places).
WRONG = {
    "places": [
        (-1, 2), (0, 13), (13, 13), (3, 2), (12, 0), (1, 0), (0,), (), (0, 1, 2), [0, 2], "02", 2, 0, None, True, {},
        {0: 1, 2: 3}, (True, 2), (0, True), (False, 2), (0, False), (False, False), ("0", "2"), (None, 2), (0, None),
        (Number(0), 2), (0, Number(2)), Number(2), (0, (2,)), ((0, 2),), (0, 10 ** 59), (-(10 ** 59), 2), ([0], 2),
    ],
    "figures": [
        0, 13, -1, 10 ** 59, True, False, "", "3", (), (3,), [3], [], {}, {3: 3}, Number(3), Number(1), Custom(),
    ],
    "step": [
        Number(0), Number(-1), Number(-1, 2), Number(1, 3), Number(1, 1000), Number(1, 8), Number(10, 7), Number(1, 6),
        Number(1, 10 ** 12), Number(-1, 10 ** 59), Number(10 ** 59, 3), 1, 0, True, False, "", "1", "1/2", (), (1, 2),
        (Number(1),), [Number(1)], {}, {1: Number(1)}, Custom(),
    ],
    "way": [
        "", "half", "half-even", "Half even", "half even ", " half even", "half  even", "even", "odd", "nearest", "UP",
        "up\n", None, 0, 1, True, (), ("up",), ["up"], WAYS, {}, {"up": 1}, Number(1), len, lambda count, part: True,
    ],
    "signs": ["", "plus", "Minus", "minus ", "none", "ALL", "mi", None, 0, True, (), ("minus",), ["all"], {},
    Number(1)],
    "grouped": [0, 1, None, "", "True", "grouped", (), (True,), [True], [], {}, Number(1), Number(0)],
    "scaled": [0, 1, None, "", "False", "scaled", (), (False,), [False], [], {}, Number(1), Number(0)],
    "unit": [
        ("aaaaaaa", ""), ("", "aaaaaaa"), (" a", ""), ("", "a "), (" ", ""), ("", " "), ("      ", ""), ("$", "m "),
        (" $", "m"), ("",), (), ("", "", ""), ["", ""], "", "ab", "$", None, 0, True, {}, {"": 1, "a": 2}, ("", None),
        (None, ""), (None, None), (1, 2), (("",), ""), ("", ("m",)), ("", ["m"]), (Number(1), ""), ("", Number(1)), ("",
        True),
    ],
}
TAKES_NONE = ("figures", "step")


def fields_of(wish):
    return {name: getattr(wish, name) for name in NAMES}


class Refusing(unittest.TestCase):
    def refused(self, name, ask, **fields):
        with self.assertRaises(NoWish, msg=repr(fields)[:200]) as caught:
            ask(**fields)
        self.assertEqual(caught.exception.thing, name, repr(fields)[:200])


class Fields(Refusing):
    def test_the_defaults(self):
        self.assertEqual(fields_of(Wish()), DEFAULTS)

    def test_each_field_is_handed_in_by_name_in_any_order(self):
        told = {
            "unit": ("$", " m"), "scaled": True, "grouped": False, "signs": "all", "way": "down", "step": None,
            "figures": 3,
            "places": (1, 4),
        }
        self.assertEqual(fields_of(Wish(**told)), told)
        told.update({"figures": None, "step": Number(5, 4), "scaled": False})
        self.assertEqual(fields_of(Wish(**told)), told)
        with self.assertRaises(TypeError):
            Wish((0, 2))
        parameters = inspect.signature(Wish).parameters
        self.assertEqual(tuple(parameters), NAMES)
        for name in NAMES:
            self.assertEqual(parameters[name].kind, inspect.Parameter.KEYWORD_ONLY)
            self.assertEqual(parameters[name].default, DEFAULTS[name])

    def test_what_is_right(self):
        for name, kinds in RIGHT.items():
            for kind in kinds:
                self.assertEqual(fields_of(Wish(**{name: kind})), {**DEFAULTS, name: kind})

    def test_what_is_wrong(self):
        for name, kinds in WRONG.items():
            for kind in kinds:
                self.refused(name, Wish, **{name: kind})

    def test_things_of_every_kind(self):
        fine = {
            "places": [], "figures": [None, 1], "step": [None, Number(1), Number(1, 2)], "way": [], "signs": [],
            "grouped": [True, False], "scaled": [True, False], "unit": [("", ""), ("-", "")],
        }
        for name in NAMES:
            for thing in things():
                if not [right for right in fine[name] if right == thing and right.__class__ is thing.__class__]:
                    self.refused(name, Wish, **{name: thing})
                else:
                    self.assertEqual(getattr(Wish(**{name: thing}), name), thing)

    def test_all_places(self):
        for fewest in range(-1, 14):
            for most in range(-1, 14):
                if 0 <= fewest <= most <= 12:
                    self.assertEqual(Wish(places=(fewest, most)).places, (fewest, most))
                else:
                    self.refused("places", Wish, places=(fewest, most))

    def test_steps_and_places(self):
        for places in range(13):
            for most in range(13):
                for step in (Number(1, 10 ** places), Number(3, 5 ** places), Number(10 ** 13 + 1, 2 ** places)):
                    if places <= most:
                        self.assertEqual(Wish(places=(0, most), step=step).step, step)
                    else:
                        self.refused("step", Wish, places=(0, most), step=step)
            self.refused("step", Wish, places=(0, 12), step=Number(1, 3 * 10 ** places))
        self.assertEqual(Wish(places=(12, 12), step=Number(1)).step, Number(1))
        self.refused("step", Wish, places=(0, 12), step=Number(1, 10 ** 13))

    def test_units_of_six_and_seven_signs(self):
        for many in range(9):
            for unit in (("u" * many, ""), ("", "u" * many), ("u" * many, "u" * many)):
                if many <= 6:
                    self.assertEqual(Wish(unit=unit).unit, unit)
                else:
                    self.refused("unit", Wish, unit=unit)

    def test_truths_for_whole_numbers_and_whole_numbers_for_truths(self):
        self.refused("figures", Wish, figures=True)
        self.refused("places", Wish, places=(False, True))
        for name in ("grouped", "scaled"):
            for kind in (True, False):
                self.assertIs(getattr(Wish(**{name: kind}), name), kind)
            self.refused(name, Wish, **{name: 1})
            self.refused(name, Wish, **{name: 0})

    def test_the_refusal_is_a_figure_error(self):
        with self.assertRaises(FigureError):
            Wish(way="")

    def test_two_objects_share_nothing(self):
        step = Number(1, 4)
        one = Wish(step=step)
        other = one.but(signs="all")
        step.top = 3
        self.assertEqual(one.step, Number(1, 4))
        one.step.top = 5
        self.assertEqual((step, other.step), (Number(3, 4), Number(1, 4)))
        first, second = Wish(), Wish()
        first.places = (1, 1)
        self.assertEqual(fields_of(second), DEFAULTS)
        self.assertEqual(fields_of(Wish()), DEFAULTS)


class TwoFields(Refusing):
    def test_figures_and_step_both(self):
        self.refused("step", Wish, figures=3, step=Number(1))
        self.refused("step", Wish, step=Number(1), figures=3)
        self.refused("step", Wish, figures=3, step=Number(1, 3))
        self.refused("step", Wish, figures=3, step=Number(1), scaled=True)
        self.refused("step", Wish, figures=3, step=Number(1), way="")
        self.refused("step", Wish, figures=3, step="")
        self.refused("figures", Wish, figures=0, step=Number(1))
        self.refused("figures", Wish, figures=False, step=Number(1))
        self.refused("places", Wish, places=(2, 1), figures=3, step=Number(1))

    def test_step_and_scaled_both(self):
        self.refused("scaled", Wish, step=Number(1), scaled=True)
        self.refused("scaled", Wish, step=Number(1), scaled=True, unit=())
        self.refused("scaled", Wish, step=Number(1), scaled=1)
        self.refused("grouped", Wish, step=Number(1), scaled=True, grouped=1)
        self.refused("way", Wish, step=Number(1), scaled=True, way="")
        self.refused("step", Wish, step=Number(0), scaled=True)
        self.assertTrue(Wish(figures=3, scaled=True).scaled)
        self.assertFalse(Wish(step=Number(1), scaled=False).scaled)

    def test_of_two_wrong_fields_the_first_is_told(self):
        for at, ahead in enumerate(NAMES):
            for later in NAMES[at + 1:]:
                for one in WRONG[ahead]:
                    for other in WRONG[later][:6]:
                        self.refused(ahead, Wish, **{later: other, ahead: one})

    def test_a_wrong_field_ahead_of_two_that_do_not_go_together_and_behind_them(self):
        self.refused("step", Wish, figures=3, step=Number(1), unit=None)
        self.refused("signs", Wish, step=Number(1), signs="", scaled=True)
        self.refused("figures", Wish, figures="", step=Number(1), scaled=True)


class Equal(unittest.TestCase):
    def test_wishes_of_the_same_fields_are_equal(self):
        self.assertTrue(Wish() == Wish())
        self.assertFalse(Wish() != Wish())
        self.assertTrue(Wish(figures=3, unit=("", "m")) == Wish(unit=("", "m"), figures=3))

    def test_steps_made_of_other_tops_and_bottoms(self):
        one = Wish(step=Number(1, 2))
        for step in (Number(2, 4), Number(-3, -6), Number(10 ** 30, 2 * 10 ** 30), Number(1).over(Number(2))):
            self.assertIs(one == Wish(step=step), True)
            self.assertIs(one != Wish(step=step), False)
        self.assertIs(one == Wish(step=Number(1, 4)), False)
        self.assertIs(one == Wish(), False)
        self.assertIs(Wish() == one, False)

    def test_wishes_that_differ_in_one_field_are_not(self):
        for name, kinds in RIGHT.items():
            for at, kind in enumerate(kinds):
                for number, other in enumerate(kinds):
                    one, two = Wish(**{name: kind}), Wish(**{name: other})
                    self.assertIs(one == two, at == number or kind == other)
                    self.assertIs(one != two, not (at == number or kind == other))

    def test_a_wish_is_equal_to_nothing_else(self):
        wish = Wish()
        for thing in things() + [
            tuple(DEFAULTS.values()), list(DEFAULTS.values()), DEFAULTS, "places 0 2 half-even minus grouped", Custom(),
            None, True, False, 1, "Wish",
        ]:
            self.assertIs(wish == thing, False)
            self.assertIs(thing == wish, False)
            self.assertIs(wish != thing, True)


class But(Refusing):
    def test_each_field_otherwise(self):
        for name, kinds in RIGHT.items():
            for kind in kinds:
                wish = Wish()
                told = wish.but(**{name: kind})
                self.assertIsInstance(told, Wish)
                self.assertEqual(fields_of(told), {**DEFAULTS, name: kind})
                self.assertEqual(fields_of(wish), DEFAULTS)

    def test_the_other_fields_stay(self):
        full = {
            "places": (1, 4), "figures": 5, "step": None, "way": "low", "signs": "all", "grouped": False,
            "scaled": True,
            "unit": ("$", " m"),
        }
        stepped = {**full, "figures": None, "step": Number(3, 4), "scaled": False}
        for fields in (full, stepped):
            wish = Wish(**fields)
            for name, kinds in RIGHT.items():
                for kind in kinds:
                    if kind is not None and not (name == "places" and kind[1] < 2):
                        if not (name in ("step", "scaled") and (fields["scaled"] or kind is True)):
                            after = {**fields, name: kind}
                            if name in TAKES_NONE:
                                after = {**fields, "figures": None, "step": None, name: kind}
                            self.assertEqual(fields_of(wish.but(**{name: kind})), after)
            self.assertEqual(fields_of(wish), fields)

    def test_false_is_told(self):
        wish = Wish(grouped=True, scaled=True)
        self.assertEqual(fields_of(wish.but(grouped=False, scaled=False)), {**DEFAULTS, "grouped": False})
        self.assertIs(wish.but(grouped=None, scaled=None).scaled, True)

    def test_none_and_nothing_leave_all_as_it_is(self):
        for wish in (
            Wish(figures=3, scaled=True, unit=("$", "")), Wish(step=Number(1, 4), signs="all", way="up", places=(1, 3)),
            Wish(grouped=False, places=(0, 0)),
        ):
            before = fields_of(wish)
            for told in (wish.but(), wish.but(**{name: None for name in NAMES})):
                self.assertEqual(fields_of(told), before)
                self.assertIsNot(told, wish)
            for name in NAMES:
                self.assertEqual(fields_of(wish.but(**{name: None})), before)

    def test_figures_take_a_step_away_and_a_step_figures(self):
        stepped, figured = Wish(step=Number(1, 4)), Wish(figures=3)
        self.assertEqual(fields_of(stepped.but(figures=5)), {**DEFAULTS, "figures": 5})
        self.assertEqual(fields_of(figured.but(step=Number(1, 2))), {**DEFAULTS, "step": Number(1, 2)})
        self.assertEqual(fields_of(stepped.but(figures=5, step=None)), {**DEFAULTS, "figures": 5})
        self.assertEqual(fields_of(figured.but(figures=None, step=Number(1))), {**DEFAULTS, "step": Number(1)})
        self.assertEqual(fields_of(stepped.but(step=Number(1))), {**DEFAULTS, "step": Number(1)})
        self.assertEqual(fields_of(figured.but(figures=1)), {**DEFAULTS, "figures": 1})
        # The step that is taken away stands in the way of nothing.
        self.assertTrue(stepped.but(figures=5, scaled=True).scaled)
        self.assertEqual(stepped.but(figures=5, places=(0, 0)).places, (0, 0))
        self.assertEqual((fields_of(stepped)["step"], fields_of(figured)["figures"]), (Number(1, 4), 3))

    def test_both_told_stand_both(self):
        for wish in (Wish(), Wish(figures=3), Wish(step=Number(1, 4)), Wish(scaled=True)):
            self.refused("step", wish.but, figures=5, step=Number(1))
            self.refused("step", wish.but, figures=3, step=Number(1, 4))
            self.refused("figures", wish.but, figures=0, step=Number(1))

    def test_refused(self):
        wish = Wish(places=(0, 2), step=Number(1, 4), signs="all")
        before = fields_of(wish)
        for name, kinds in WRONG.items():
            for kind in kinds:
                if kind is not None:
                    self.refused(name, wish.but, **{name: kind})
        self.refused("scaled", wish.but, scaled=True)
        self.refused("step", wish.but, places=(0, 1))
        self.refused("step", wish.but, places=(0, 1), scaled=True)
        self.refused("figures", wish.but, figures=13)
        self.refused("scaled", Wish(scaled=True).but, step=Number(1))
        self.refused("scaled", Wish(scaled=True, figures=3).but, step=Number(1))
        self.refused("step", Wish(scaled=True, figures=3).but, step=Number(1, 3))
        self.assertEqual(fields_of(wish), before)
        with self.assertRaises(TypeError):
            wish.but((0, 2))

    def test_each_is_handed_in_by_name(self):
        fields = inspect.signature(Wish.but).parameters
        self.assertEqual(tuple(fields), ("self",) + NAMES)
        self.assertTrue(all(fields[name].kind == inspect.Parameter.KEYWORD_ONLY for name in NAMES))

    def test_methods_stand_in_the_class_itself(self):
        self.assertIn("but", vars(Wish))
        self.assertIn("__eq__", vars(Wish))
        self.assertEqual(Wish.__module__, "figuretexts.wishes")

    def test_nothing_that_is_handed_in_is_changed(self):
        places, unit, step = [0, 2], ["", ""], Number(2, 8)
        self.refused("places", Wish, places=places, unit=unit)
        self.refused("unit", Wish, unit=unit, step=step)
        Wish(step=step).but(way="up")
        self.assertEqual((places, unit, (step.top, step.bottom)), ([0, 2], ["", ""], (1, 4)))
