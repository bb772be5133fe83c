"""The texts of wishes: written, read back, and what is none."""

import unittest

from figuretexts.errors import NoText
from figuretexts.numbers import Number
from figuretexts.options import WAYS
from figuretexts.wishes import Wish
from figuretexts.wishtexts import read_wish, show_wish
from tests.test_wishes import RIGHT, fields_of
from tests.things import things

PLAIN = "places 0 2 half-even minus grouped"
WAY_WORDS = ("up", "down", "high", "low", "half-up", "half-down", "half-even", "half-odd")

# Of each text the fields of its wish that aren't the defaults.
TABLE = {
    PLAIN: {},
    "places 0 0 half-even minus grouped": {"places": (0, 0)},
    "places 3 12 half-even minus grouped": {"places": (3, 12)},
    "places 12 12 half-even minus grouped": {"places": (12, 12)},
    "places 10 11 half-even minus grouped": {"places": (10, 11)},
    "places 0 2 figures 1 half-even minus grouped": {"figures": 1},
    "places 0 2 figures 12 half-even minus grouped": {"figures": 12},
    "places 0 2 step 1 half-even minus grouped": {"step": Number(1)},
    "places 0 2 step 1/4 half-even minus grouped": {"step": Number(2, 8)},
    "places 0 2 step 1000000000000 half-even minus grouped": {"step": Number(10 ** 12)},
    "places 0 12 step 1/1000000000000 half-even minus grouped": {"places": (0, 12), "step": Number(1, 10 ** 12)},
    "places 0 2 step 7/5 half-even minus grouped": {"step": Number(7, 5)},
    "places 0 2 half-even all grouped": {"signs": "all"},
    "places 0 2 half-even minus plain": {"grouped": False},
    "places 0 2 half-even minus grouped scaled": {"scaled": True},
    "places 0 2 figures 3 up all plain scaled": {
        "figures": 3, "way": "up", "signs": "all", "grouped": False, "scaled": True,
    },
    "places 1 3 step 1/8 half-odd all plain": {
        "places": (1, 3), "step": Number(1, 8), "way": "half odd", "signs": "all", "grouped": False,
    },
}
TABLE.update({f"places 0 2 {word} minus grouped": {"way": way} for word, way in zip(WAY_WORDS, WAYS)})

# Words of which wishes' texts are made, and others: all texts of those with these steps and places are told below.
STEPS = {"1": 0, "2": 0, "12": 0, "13": 0, "1/2": 1, "1/4": 2, "7/1000000000000": 12}
POOL = (
    "", "places", "0", "1", "2", "12", "13", "00", "01", "02", "-1", "+1", "figures", "step", "1/2", "1/4", "2/4",
    "1/3",
    "1/1", "0/1", "-1/2", "7/1000000000000", "half-even", "half", "half even", "up", "Up", "down", "minus", "all",
    "plus",
    "grouped", "plain", "ungrouped", "scaled", "more", "\n", "1\n", "none", "1.5", "a",
)


def prefixes():
    """(each row of words with which one of these texts begins, each whole one), as dicts."""
    begun, whole = {}, {}
    for fewest in (0, 1, 2, 12):
        for most in (0, 1, 2, 12):
            if fewest <= most:
                ahead = ("places", str(fewest), str(most))
                kinds = [(ahead, True), (ahead + ("figures", "1"), True), (ahead + ("figures", "12"), True)]
                kinds += [(ahead + ("figures", "2"), True)]
                kinds += [(ahead + ("step", step), False) for step, places in STEPS.items() if places <= most]
                for row, scales in kinds:
                    for way in WAY_WORDS:
                        for signs in ("minus", "all"):
                            for groups in ("grouped", "plain"):
                                full = row + (way, signs, groups)
                                whole[full] = True
                                if scales:
                                    whole[full + ("scaled",)] = True
    for row in whole:
        for many in range(len(row) + 1):
            begun[row[:many]] = True
    return begun, whole


BEGUN, WHOLE = prefixes()


class Refusing(unittest.TestCase):
    def refused(self, thing, at):
        with self.assertRaises(NoText, msg=repr(thing)[:300]) as caught:
            read_wish(thing)
        self.assertEqual(caught.exception.at, at, repr(thing)[:300])
        self.assertIs(caught.exception.at.__class__, int)

    def held_apart(self, words):
        """Hold what is read of these words against all texts that there are of such words."""
        for many in range(1, len(words) + 1):
            if tuple(words[:many]) not in BEGUN:
                self.refused(" ".join(words), many - 1)
                return
        if tuple(words) in WHOLE:
            self.assertEqual(show_wish(read_wish(" ".join(words))), " ".join(words))
        else:
            self.refused(" ".join(words), len(words))


class Written(unittest.TestCase):
    def test_the_table(self):
        for text, fields in TABLE.items():
            self.assertEqual(show_wish(Wish(**fields)), text)

    def test_a_unit_is_not_written(self):
        for unit in RIGHT["unit"]:
            self.assertEqual(show_wish(Wish(unit=unit)), PLAIN)
            self.assertEqual(show_wish(Wish(figures=4, unit=unit)), "places 0 2 figures 4 half-even minus grouped")


class ReadBack(Refusing):
    def test_the_table(self):
        for text, fields in TABLE.items():
            told = read_wish(text)
            self.assertIsInstance(told, Wish)
            self.assertEqual(fields_of(told), fields_of(Wish(**fields)))
            self.assertTrue(told == Wish(**fields))
            self.assertEqual(show_wish(told), text)

    def test_each_field_of_each_kind(self):
        for name, kinds in RIGHT.items():
            for kind in kinds:
                wish = Wish(**{name: kind})
                told = read_wish(show_wish(wish))
                self.assertEqual(fields_of(told), fields_of(wish.but(unit=("", ""))))

    def test_all_the_texts_of_some_words(self):
        for words in WHOLE:
            self.assertEqual(show_wish(read_wish(" ".join(words))), " ".join(words))

    def test_the_kinds_of_what_is_read(self):
        told = read_wish("places 0 2 figures 3 half-up minus plain scaled")
        self.assertEqual((told.places.__class__, told.figures.__class__), (tuple, int))
        self.assertEqual([part.__class__ for part in told.places], [int, int])
        self.assertTrue(told.grouped is False and told.scaled is True and told.step is None)
        told = read_wish("places 0 2 step 1 half-up minus grouped")
        self.assertTrue(told.grouped is True and told.scaled is False and told.figures is None)
        self.assertIsInstance(told.step, Number)
        self.assertEqual(told.unit, ("", ""))

    def test_steps_of_sixty_signs(self):
        for step in (Number(10 ** 30), Number(10 ** 40 + 1, 10 ** 12), Number(10 ** 59)):
            wish = Wish(places=(0, 12), step=step)
            self.assertEqual(read_wish(show_wish(wish)), wish)


class NoSuchText(Refusing):
    def test_no_text_at_all(self):
        for thing in things():
            self.refused(thing, 0)
        for thing in (PLAIN.split(" "), tuple(PLAIN.split(" ")), Wish(), [PLAIN], (PLAIN,), {PLAIN: 1}, ""):
            self.refused(thing, 0)
        for text in (" " * 4000, "\n" * 4000, "places" * 600, "0 " * 2000):
            self.refused(text, 0)
        self.refused("places 0 2 " + "9" * 3980, 3)
        self.refused("places " + "9" * 3980, 1)
        self.refused("places " + "9" * 5000, 1)
        self.refused("places \u00b2 2 half-even minus grouped", 1)
        self.refused("places 0 2 figures \u0663 half-even minus grouped", 4)
        self.refused("places 0 2 figures " + "9" * 3980, 4)
        self.refused("places 0 2 step " + "9" * 3980, 4)
        self.refused("places 0 2 step 1/" + "9" * 3980, 4)

    def test_words_that_lack_at_the_end(self):
        for text in TABLE:
            words = text.split(" ")
            for many in range(1, len(words)):
                part = " ".join(words[:many])
                # Only there a text may end.
                if words[many - 1] not in ("grouped", "plain"):
                    self.refused(part, many)
                    self.refused(part + " ", many)

    def test_a_word_at_which_no_text_goes_on(self):
        for text, at in {
            "place 0 2 half-even minus grouped": 0,
            "Places 0 2 half-even minus grouped": 0,
            "0 2 half-even minus grouped": 0,
            "places 13 13 half-even minus grouped": 1,
            "places -1 2 half-even minus grouped": 1,
            "places 00 2 half-even minus grouped": 1,
            "places 01 2 half-even minus grouped": 1,
            "places +1 2 half-even minus grouped": 1,
            "places 100 2 half-even minus grouped": 1,
            "places two 2 half-even minus grouped": 1,
            "places 3 2 half-even minus grouped": 2,
            "places 12 0 half-even minus grouped": 2,
            "places 0 13 half-even minus grouped": 2,
            "places 0 02 half-even minus grouped": 2,
            "places 0 half-even minus grouped": 2,
            "places 0 2 3 half-even minus grouped": 3,
            "places 0 2 half even minus grouped": 3,
            "places 0 2 half_even minus grouped": 3,
            "places 0 2 even minus grouped": 3,
            "places 0 2 UP minus grouped": 3,
            "places 0 2 minus grouped": 3,
            "places 0 2 scaled half-even minus grouped": 3,
            "places 0 2 half-even grouped minus": 4,
            "places 0 2 half-even plus grouped": 4,
            "places 0 2 half-even grouped": 4,
            "places 0 2 half-even figures 3 minus grouped": 4,
            "places 0 2 half-even minus scaled": 5,
            "places 0 2 half-even minus all grouped": 5,
            "places 0 2 half-even minus ungrouped": 5,
            "places 0 2 half-even minus True": 5,
            "places 0 2 half-even minus grouped plain": 6,
            "places 0 2 half-even minus grouped unscaled": 6,
            "places 0 2 half-even minus grouped scaled scaled": 7,
            "places 0 2 half-even minus grouped scaled more": 7,
            "places 0 2 figures 0 half-even minus grouped": 4,
            "places 0 2 figures 13 half-even minus grouped": 4,
            "places 0 2 figures 03 half-even minus grouped": 4,
            "places 0 2 figures -3 half-even minus grouped": 4,
            "places 0 2 figures none half-even minus grouped": 4,
            "places 0 2 figures 1/2 half-even minus grouped": 4,
            "places 0 2 figures half-even minus grouped": 4,
            "places 0 2 figures 3 step 1 half-even minus grouped": 5,
            "places 0 2 figures 3 figures 3 half-even minus grouped": 5,
            "places 0 2 figures 3 minus grouped": 5,
            "places 0 2 step 1 figures 3 half-even minus grouped": 5,
            "places 0 2 step 1 step 1 half-even minus grouped": 5,
            "places 0 2 step half-even minus grouped": 4,
            "places 0 2 step 0 half-even minus grouped": 4,
            "places 0 2 step -1 half-even minus grouped": 4,
            "places 0 2 step -1/2 half-even minus grouped": 4,
            "places 0 2 step 01 half-even minus grouped": 4,
            "places 0 2 step 1/1 half-even minus grouped": 4,
            "places 0 2 step 2/4 half-even minus grouped": 4,
            "places 0 2 step 1/02 half-even minus grouped": 4,
            "places 0 2 step 1/0 half-even minus grouped": 4,
            "places 0 2 step 0.5 half-even minus grouped": 4,
            "places 0 2 step 1/3 half-even minus grouped": 4,
            "places 0 2 step 1/8 half-even minus grouped": 4,
            "places 0 2 step 1/1000 half-even minus grouped": 4,
            "places 0 0 step 1/2 half-even minus grouped": 4,
            "places 0 12 step 1/10000000000000 half-even minus grouped": 4,
            "places 0 2 step 1/4 half-even minus grouped scaled": 8,
            "places 0 2 step 1/4 half-even minus grouped plain": 8,
            "places 0 2 step 1/4 half-even minus scaled": 7,
            " places 0 2 half-even minus grouped": 0,
            "places  0 2 half-even minus grouped": 1,
            "places 0 2  half-even minus grouped": 3,
            "places 0 2 half-even minus  grouped": 5,
            "places 0 2 half-even minus grouped ": 6,
            "places 0 2 half-even minus grouped  scaled": 6,
            "places 0 2 half-even minus grouped scaled ": 7,
            "places 0 2 step 1/4 half-even minus grouped ": 8,
            "places 0 2 figures  3 half-even minus grouped": 4,
            "places 0 2 half-even minus grouped\n": 5,
            "\nplaces 0 2 half-even minus grouped": 0,
            "places\n0 2 half-even minus grouped": 0,
            "places 0\n2 half-even minus grouped": 1,
            "places 0 2 half-even minus grouped scaled\n": 6,
            "places 0 2 step 1\n half-even minus grouped": 4,
        }.items():
            self.refused(text, at)

    def test_words_left_out_twice_exchanged_one_more(self):
        rows = [row for number, row in enumerate(sorted(WHOLE)) if number % 23 == 0]
        rows += [tuple(text.split(" ")) for text in TABLE if tuple(text.split(" ")) in WHOLE]
        self.assertGreater(len(rows), 100)
        for row in rows:
            words = list(row)
            for at in range(len(words) + 1):
                self.held_apart(words[:at] + words[at + 1:])
                self.held_apart(words[:at] + words[at:at + 1] + words[at:])
                self.held_apart(words[:at] + words[at:at + 2][::-1] + words[at + 2:])

    def test_each_word_exchanged_for_others_and_others_put_in(self):
        pool = [word for word in POOL if " " not in word]
        rows = [row for number, row in enumerate(sorted(WHOLE)) if number % 101 == 0]
        self.assertGreater(len(rows), 25)
        for row in rows:
            words = list(row)
            for at in range(len(words) + 1):
                for word in pool:
                    self.held_apart(words[:at] + [word] + words[at + 1:])
                    self.held_apart(words[:at] + [word] + words[at:])


class Module(unittest.TestCase):
    def test_both_stand_in_the_file(self):
        for function in (show_wish, read_wish):
            self.assertEqual(function.__module__, "figuretexts.wishtexts")

    def test_nothing_is_changed_and_the_same_is_told(self):
        wish = Wish(step=Number(1, 4), unit=("", "m"))
        before = fields_of(wish)
        one, other = read_wish(show_wish(wish)), read_wish(show_wish(wish))
        self.assertEqual(fields_of(wish), before)
        self.assertTrue(one == other and one is not other and one.step is not other.step)
        thing = ["places", "0"]
        with self.assertRaises(NoText):
            read_wish(thing)
        self.assertEqual(thing, ["places", "0"])
