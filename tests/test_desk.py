"""A desk: what it answers, what it refuses, and what it keeps."""

import unittest
from random import Random

from figuretexts.customs import Custom
from figuretexts.customtexts import show_custom
from figuretexts.desk import Desk
from figuretexts.errors import NoCustom, NoName, NoRead, NoText
from figuretexts.kindly import read_kindly
from figuretexts.numbers import Number, read_number
from figuretexts.parting import least_parted
from figuretexts.reading import read_strictly
from figuretexts.wishes import Wish
from figuretexts.wishtexts import read_wish, show_wish
from figuretexts.writing import written
from tests.things import things

PLAIN = "wish w places 0 2 half-even minus grouped"
LETTERS = "abcdefghijklmnopqrstuvwxyz"


class Desks(unittest.TestCase):
    def setUp(self):
        self.desk = Desk()

    def told(self, line, answer, desk=None):
        desk = desk or self.desk
        before = desk.notes()
        self.assertEqual(desk.say(line), answer, line)
        self.assertEqual(desk.notes(), before + ("done",))

    def refused(self, line, kind, thing=0, desk=None):
        """Hold that the line is refused so, and that only a note is added."""
        desk = desk or self.desk
        before = desk.notes()
        with self.assertRaises((NoText, NoName, NoCustom, NoRead), msg=repr(line)[:200]) as caught:
            desk.say(line)
        self.assertIs(caught.exception.__class__, kind, repr(line)[:200])
        self.assertEqual(caught.exception.at if kind is NoText else caught.exception.thing, thing, repr(line)[:200])
        self.assertEqual(desk.notes(), before + (kind.__name__,))

    def ready(self, *lines):
        for line in lines:
            self.told(line, "ok")


class Customs(Desks):
    def shown(self, line, answer):
        self.ready("custom a " + line)
        self.told("write -1234567/2 w a", answer)

    def test_each_field_is_put_otherwise(self):
        self.ready(PLAIN)
        self.shown("point ;", "-617,283;5")
        self.shown("group '", "-617'283;5")
        self.shown("group blank", "-617 283;5")
        self.shown("group none", "-617283;5")
        self.shown("group .", "-617.283;5")
        self.shown("sizes 2", "-61.72.83;5")
        self.shown("sizes 1 2 3 4", "-617.28.3;5")
        self.shown("least 4", "-617.28.3;5")
        self.shown("minus ( )", "(617.28.3;5)")
        self.shown("minus none --", "617.28.3;5--")
        self.shown("minus m none", "m617.28.3;5")
        self.shown("plus p q", "m617.28.3;5")
        self.shown("figures ABCDEFGHIJ", "mGBH.CI.D;F")
        self.shown("words 3 k 6 y", "mGBH.CI.D;F")
        self.shown("between to", "mGBH.CI.D;F")
        self.shown("about ca", "mGBH.CI.D;F")
        self.ready("wish w places 0 1 half-even all grouped scaled")
        self.told("write 1234567/2 w a", "pGBH;Dkq")
        self.shown("words none", "mGBH.CI.D;F")

    def test_a_custom_begins_with_all_defaults(self):
        self.ready(PLAIN, "custom a about ca")
        for number in ("0", "-5", "1234567/2", "-1000"):
            self.told(f"write {number} w a", written(read_number(number), Wish(), Custom()))
        self.told("kindly a 1,234.5", "2469/2")

    def test_only_the_custom_of_this_name_is_put_otherwise(self):
        self.ready(PLAIN, "custom a point ;", "custom b group '", "custom a group none")
        self.told("write 2469/2 w a", "1234;5")
        self.told("write 2469/2 w b", "1'234.5")

    def test_words_that_are_not_written_so(self):
        self.ready("custom a point ;")
        for field in (
            "", "point", "point ", "point  ;", "point ; ", "point ;;", "point none", "point blank", "Point ;", "points ;",
            "group", "group ", "group  ", "group ..", "group None", "sizes", "sizes ", "sizes 0", "sizes 7", "sizes 03",
            "sizes 3  2", "sizes 3 2 ", "sizes 3,2", "sizes (3,)", "sizes 1 2 3 4 5", "sizes none", "sizes -1", "sizes +3",
            "least 0", "least 5", "least 01", "least", "least 1 1", "least one", "minus -", "minus none none", "minus",
            "minus - ", "minus  -", "minus - -  ", "minus ---- none", "minus - none none", "plus +", "plus none none",
            "plus + none ", "figures 012345678", "figures 01234567890", "figures 0123456788", "figures none", "figures",
            "figures 01234 56789", "words", "words ", "words 3", "words 3 k 6", "words 6 m 3 k", "words 3 k 3 m",
            "words 3 k 6 k", "words 0 k", "words 31 k", "words 03 k", "words 3  k", "words 3 k ", "words 3 kkkk",
            "words none none", "words k 3", "words 1 a 2 b 3 c 4 d 5 e 6 f 7 g", "between", "between ", "between abcd",
            "between a b", "between none ", "about", "about ....", "about a b", "name a", "way up", "unit $", "drop", "a",
            "custom point ;", "none", "point ; group '", "words (3,k)",
        ):
            self.refused("custom a " + field, NoText)
        self.ready(PLAIN)
        self.told("write 2469/2 w a", "1,234;5")

    def test_fields_that_clash(self):
        self.ready(PLAIN, "custom a point ;")
        for field, wrong in (
            ("point ,", "group"), ("point -", "minus"), ("point 5", "figures"), ("point ~", "between"),
            ("group ;", "group"), ("group -", "minus"), ("minus ; none", "minus"), ("minus + none", "plus"),
            ("minus none ,5", "minus"), ("minus 5 none", "figures"), ("plus - none", "plus"), ("plus + @", "about"),
            ("figures 012345678;", "figures"), ("figures 012345678~", "between"), ("words 3 ;", "words"),
            ("words 3 k 6 ~", "between"), ("words 3 5", "words"), ("between ;", "between"), ("between @", "about"),
            ("between a-b", "between"), ("about ~", "about"), ("about 1", "about"), ("about ;", "about"),
        ):
            self.refused("custom a " + field, NoCustom, wrong)
        self.told("write -2469/2 w a", "-1,234;5")
        # A custom that never was isn't there after a refusal.
        self.refused("custom b point ,", NoCustom, "group")
        self.refused("write 1 w b", NoName, "b")
        self.told("names", "a w")

    def test_what_clashed_before_may_be_so_later(self):
        self.ready(PLAIN)
        self.refused("custom a group .", NoCustom, "group")
        self.ready("custom a point ;", "custom a group .", "custom a point ,")
        self.told("write 2469/2 w a", "1.234,5")

    def test_the_lines_of_a_custom_text(self):
        custom = Custom(
            point=";", group=" ", sizes=(3, 2), least=2, minus=("(", ")"), plus=("", "p"), figures="ABCDEFGHIJ",
            words=((3, "k"), (30, "mm")), between="to", about="ca",
        )
        for line in show_custom(custom).split("\n"):
            self.ready("custom a " + line)
        self.ready("wish w places 2 2 half-even all grouped", "wish s places 0 2 half-even minus plain scaled")
        for text in ("0", "-12345678901/8", "1000000/3", "12345"):
            number = read_number(text)
            self.told(f"write {text} w a", written(number, Wish(places=(2, 2), signs="all"), custom))
            self.told(f"write {text} s a", written(number, Wish(grouped=False, scaled=True), custom))


class Wishes(Desks):
    def test_wishes_are_put_whole(self):
        self.ready("custom a point .")
        for wish in (
            Wish(), Wish(places=(2, 4)), Wish(figures=3), Wish(step=Number(1, 4)), Wish(way="half odd", signs="all"),
            Wish(grouped=False, scaled=True), Wish(figures=1, way="up", scaled=True), Wish(step=Number(5), way="low"),
        ):
            self.ready("wish w " + show_wish(wish))
            for text in ("0", "-12345/8", "1000000/3", "5"):
                self.told(f"write {text} w a", written(read_number(text), wish, Custom()))

    def test_words_that_are_not_written_so(self):
        self.ready(PLAIN, "custom a point .")
        for words in (
            "", "places", "places 0 2", "places 0 2 half-even", "places 0 2 half-even minus", "places 2 0 up minus plain",
            "places 0 2 half even minus grouped", "places 0 2 half-even minus grouped ", "places 0 13 up minus plain",
            "places 0  2 half-even minus grouped", " places 0 2 half-even minus grouped", "places 00 2 up minus plain",
            "places 0 2 half-even minus grouped scaled more", "places 0 2 figures 0 up minus plain",
            "places 0 2 figures 13 up minus plain", "places 0 2 step 1/3 up minus plain", "figures 3 up minus plain",
            "places 0 2 step 1/4 up minus plain scaled", "places 0 2 step 2/4 up minus plain", "none",
            "places 0 2 step 0 up minus plain", "places 0 2 figures 3 step 1 up minus plain", "places 0 2 up plus plain",
            "places 0 2 half-even minus ungrouped", "places 0 1 step 1/4 up minus plain", "w",
            "places 0 2 half-even minus grouped scaled ", "Places 0 2 half-even minus grouped",
        ):
            self.refused("wish w " + words, NoText)
            self.refused("wish v " + words, NoText)
        self.told("write 2469/2 w a", "1,234.5")
        self.told("names", "a w")

    def test_words_left_out_one_more_and_blanks(self):
        for line in ("wish", "wish ", "wish w", "wish w ", "wish  w places 0 2 up minus plain", " " + PLAIN, PLAIN + " ",
                     PLAIN + "\n", "\n" + PLAIN, PLAIN.replace(" up", "\nup").replace("half", "\nhalf"), "Wish" + PLAIN[4:]):
            self.refused(line, NoText)
        self.told("names", "none")


class Writing(Desks):
    def setUp(self):
        Desks.setUp(self)
        self.ready(PLAIN, "custom a words 3 k", "custom b point ;", "wish s places 0 1 half-even all plain scaled")

    def test_numbers(self):
        self.told("write 0 w a", "0")
        self.told("write -5 w a", "-5")
        self.told("write 1/3 w a", "0.33")
        self.told("write 2469/2 w b", "1,234;5")
        self.told("write -12345 s a", "-12.3k")
        self.told("write 12345 s a", "+12.3k")
        great = "1" * 60
        self.told(f"write {great} w a", f"{int(great):,}")
        self.told(f"write 1/{'9' * 58} w a", "0")

    def test_numbers_that_are_not_written_so(self):
        for number in (
            "", "05", "00", "-0", "+5", "5.0", "2/4", "5/1", "0/5", "1/0", "1/-2", "-", "/", "1/", "/2", "--5", "1,000", "x",
            "1 ", "5-", "1/02", "1" * 61, "1/2/3", "a", "w", "~5", "0x5", "1_000", "none",
        ):
            self.refused(f"write {number} w a", NoText)
            self.refused(f"write {number} x y", NoText)

    def test_words_left_out_one_more_and_blanks(self):
        for line in (
            "write", "write ", "write 5", "write 5 w", "write 5 w ", "write 5 w a b", "write 5 w a ", "write 5  w a",
            "write  5 w a", " write 5 w a", "write 5 w  a", "write w a", "Write 5 w a", "write 5 w a\n", "write 5\nw a",
            "\nwrite 5 w a", "write 5 w\na", "writes 5 w a", "write\n5 w a",
        ):
            self.refused(line, NoText)

    def test_names_that_are_not_there(self):
        self.refused("write 5 x a", NoName, "x")
        self.refused("write 5 w x", NoName, "x")
        self.refused("write 5 x y", NoName, "x")
        self.refused("write 5 y x", NoName, "y")
        # A wish is no custom, and a custom no wish.
        self.refused("write 5 a w", NoName, "a")
        self.refused("write 5 a a", NoName, "a")
        self.refused("write 5 w w", NoName, "w")


class Reading(Desks):
    def setUp(self):
        Desks.setUp(self)
        self.ready(PLAIN, "custom a words 3 k", "custom g group blank", "wish s places 0 1 half-even all plain scaled")

    def test_read(self):
        self.told("read w a 0", "0")
        self.told("read w a -1,234.5", "-2469/2")
        self.told("read w g 1 234.5", "2469/2")
        self.told("read s a +12.3k", "12300")
        great = f"{10 ** 59 + 1:,}"
        self.told(f"read w a {great}", str(10 ** 59 + 1))
        greater = f"{10 ** 2999 + 1:,}"
        self.told(f"read w a {greater}", str(10 ** 2999 + 1))

    def test_texts_that_are_not_read(self):
        for text in (
            "", " ", "  ", " 1", "1 ", "1234", "1,234,5", "+5", "5k", "x", "01", "1  2", "-", " " * 50, "1 234", "-0", "1.50",
        ):
            self.refused("read w a " + text, NoRead, text)
        for text in ("12", "1k", " +1k", "+1k ", "+1000", ""):
            self.refused("read s a " + text, NoRead, text)
        self.refused("read w g 1  234", NoRead, "1  234")
        self.refused("read w g 1,234", NoRead, "1,234")

    def test_kindly(self):
        for text, answer in (
            ("0", "0"), ("-1234.5", "-2469/2"), ("+5", "5"), ("0005", "5"), ("1,2,3", "123"), ("  1  2 ", "12"),
            ("5 k", "5000"), ("- 5.50", "-11/2"), ("  5", "5"), ("5  ", "5"),
        ):
            self.told("kindly a " + text, answer)
        self.told("kindly g 1  234", "1234")
        for text in ("", " ", "x", "5.", ".5", "1,,2", "5kk", "--5", "5-", "1~2", "@5"):
            self.refused("kindly a " + text, NoRead, text)
            self.refused("kindly a " + text + " ", NoRead, text + " ")
        self.told("kindly a " + "9" * 3000, "9" * 3000)

    def test_words_left_out_and_blanks(self):
        for line in (
            "read", "read ", "read w", "read w ", "read w a", "read  w a 5", " read w a 5", "read w  a 5", "Read w a 5",
            "kindly", "kindly ", "kindly a", "kindly  a 5", " kindly a 5", "Kindly a 5", "reads w a 5",
        ):
            self.refused(line, NoText)
        # With the blank there is a text, without signs.
        self.refused("read w a ", NoRead, "")
        self.refused("kindly a ", NoRead, "")

    def test_a_line_end_anywhere(self):
        for line in (
            "read w a 5\n", "read w a \n5", "read w a\n5", "read w\na 5", "read\nw a 5", "\nread w a 5", "read w a \n",
            "kindly a 5\n", "kindly a \n5", "kindly a\n5", "kindly\na 5", "\nkindly a 5", "kindly a 5\n5", "read w a 5\n5",
            "read x y 5\n", "kindly x \n",
        ):
            self.refused(line, NoText)

    def test_names(self):
        self.refused("read x y 5", NoName, "x")
        self.refused("read w y 5", NoName, "y")
        self.refused("read x a 5", NoName, "x")
        self.refused("read a w 5", NoName, "a")
        self.refused("read x y ", NoName, "x")
        self.refused("read w y ..", NoName, "y")
        self.refused("kindly w 5", NoName, "w")
        self.refused("kindly x ", NoName, "x")
        for line in ("read W a 5", "read w A 5", "read x A 5", "read ww1 a 5", "kindly A 5", "kindly abcdefghi 5"):
            self.refused(line, NoText)


class Parted(Desks):
    def setUp(self):
        Desks.setUp(self)
        self.ready(
            PLAIN, "custom a words 3 k", "custom b words 6 m", "custom c group '", "custom d minus ( )",
            "wish f places 0 2 figures 3 half-even minus grouped", "wish s places 0 2 half-even minus grouped scaled",
            "wish t places 0 2 step 7 half-even minus grouped", "wish p places 0 0 half-even minus plain",
        )

    def test_parted(self):
        self.told("parted w a b", "alike")
        self.told("parted w a a", "alike")
        self.told("parted w a c", "1000")
        self.told("parted w c a", "1000")
        self.told("parted w a d", "-1/100")
        self.told("parted w c d", "-1/100")
        self.told("parted t a c", "1001")
        self.told("parted p a c", "alike")
        self.told("parted p a d", "-1")
        self.ready("custom a figures x123456789")
        self.told("parted p a c", "0")

    def test_wishes_that_are_not_so(self):
        for wish in ("f", "s"):
            self.refused(f"parted {wish} a b", NoText)
            self.refused(f"parted {wish} a a", NoText)
            # Names that aren't there go ahead.
            self.refused(f"parted {wish} x b", NoName, "x")
            self.refused(f"parted {wish} a x", NoName, "x")
            self.refused(f"parted {wish} y x", NoName, "y")
        self.refused("parted x y z", NoName, "x")
        self.refused("parted a a b", NoName, "a")
        self.refused("parted w w b", NoName, "w")
        self.refused("parted w a w", NoName, "w")

    def test_words_left_out_one_more_and_blanks(self):
        for line in (
            "parted", "parted ", "parted w", "parted w a", "parted w a ", "parted w a b c", "parted w a b ",
            "parted  w a b", "parted w  a b", " parted w a b", "parted w a b\n", "parted\nw a b", "Parted w a b",
            "parted W a b", "parted w A b", "parted w a B", "parted x y B", "parted f a B", "parted f a ",
        ):
            self.refused(line, NoText)


class Names(Desks):
    def test_none_and_rising(self):
        self.told("names", "none")
        self.ready("custom b point ;", "wish a places 0 2 up minus plain", "custom z point ;")
        self.told("names", "a b z")
        self.ready("wish b places 0 2 up minus plain", "wish ab places 0 2 up minus plain")
        self.told("names", "a ab b z")
        self.ready("drop b", "drop a")
        self.told("names", "ab z")
        self.ready("drop z", "drop ab")
        self.told("names", "none")
        for line in ("names ", " names", "names a", "Names", "name", "names\n", "names none", "names  "):
            self.refused(line, NoText)

    def test_names_have_one_to_eight_letters(self):
        for name in ("a", "abcdefgh", "zzzzzzzz", "none", "custom", "wish", "names", "ok", "alike") + tuple(LETTERS):
            self.ready(f"custom {name} point ;", f"wish {name} places 0 2 half-even minus grouped")
            self.told(f"write 3/2 {name} {name}", "1;5")
            self.told(f"read {name} {name} 1;5", "3/2")
            self.told(f"kindly {name} 1;5", "3/2")
            self.told(f"parted {name} {name} {name}", "alike")
            self.told("names", name)
            self.ready(f"drop {name}")
        for name in ("", "abcdefghi", "A", "aB", "a1", "1", "a-b", "a_b", "a.b", "~", "a" * 200, "none!", "{"):
            for line in (
                f"custom {name} point ;", f"wish {name} places 0 2 half-even minus grouped", f"drop {name}",
                f"write 5 {name} a", f"write 5 a {name}", f"read {name} a 5", f"read a {name} 5", f"kindly {name} 5",
                f"parted {name} a a", f"parted a {name} a", f"parted a a {name}",
            ):
                self.refused(line, NoText)
        self.told("names", "none")

    def test_one_name_for_a_custom_and_a_wish(self):
        self.ready("custom a point ;", "wish a places 1 1 half-even minus grouped")
        self.told("names", "a")
        self.told("write 1000 a a", "1,000;0")
        self.ready("drop a")
        self.refused("write 1000 a a", NoName, "a")
        self.refused("drop a", NoName, "a")
        self.ready("custom a point ;")
        self.refused("write 1000 a a", NoName, "a")
        self.told("kindly a 1;5", "3/2")
        self.ready("drop a", "wish a places 1 1 half-even minus grouped")
        self.refused("kindly a 1", NoName, "a")
        self.ready("drop a")

    def test_drop(self):
        self.refused("drop a", NoName, "a")
        self.ready("custom a point ;", "custom b point '", PLAIN)
        self.ready("drop a")
        self.refused("drop a", NoName, "a")
        self.refused("kindly a 1", NoName, "a")
        self.told("write 3/2 w b", "1'5")
        # Told again it is made from nothing: by all defaults.
        self.ready("custom a group none")
        self.told("write 2469/2 w a", "1234.5")
        self.ready("drop w")
        self.refused("write 3/2 w b", NoName, "w")
        for line in ("drop", "drop ", "drop  a", "drop a b", "drop a ", " drop a", "drop a\n", "Drop a", "drop none ok"):
            self.refused(line, NoText)
        self.told("names", "a b")


class Told(Desks):
    def test_what_was_answered(self):
        self.told("names", "none")
        self.ready("custom a point ;", PLAIN)
        self.told("write 3/2 w a", "1;5")
        self.told("told 0", "none")
        self.told("told 1", "ok")
        self.told("told 2", "ok")
        self.told("told 3", "1;5")
        self.told("told 4", "none")
        self.told("told 7", "1;5")
        self.told("told 3", "1;5")
        self.told("names", "a w")
        self.told("told 11", "a w")
        self.told("told 0", "none")

    def test_what_was_refused(self):
        self.refused("nonsense", NoText)
        self.refused("drop a", NoName, "a")
        self.refused("custom a group .", NoCustom, "group")
        self.ready("custom a point .")
        self.refused("kindly a x", NoRead, "x")
        self.refused(5, NoText)
        self.refused(None, NoText)
        for at, answer in enumerate(("NoText", "NoName", "NoCustom", "ok", "NoRead", "NoText", "NoText")):
            self.told(f"told {at}", answer)
        self.told("told 7", "NoText")
        self.told("told 11", "NoRead")

    def test_in_the_words_of_then(self):
        self.ready(PLAIN, "custom a point ;")
        self.told("write 2469/2 w a", "1,234;5")
        self.told("read w a 1,234;5", "2469/2")
        self.ready("custom a group '", "wish w places 2 2 half-even minus plain")
        self.told("told 2", "1,234;5")
        self.told("write 2469/2 w a", "1234;50")
        self.ready("drop a", "drop w")
        self.told("told 2", "1,234;5")
        self.told("told 3", "2469/2")
        self.told("told 7", "1234;50")
        self.told("told 6", "1,234;5")
        self.told("names", "none")

    def test_lines_that_are_not_ahead(self):
        self.refused("told 0", NoText)
        self.refused("told 1", NoText)
        self.refused("told 3", NoText)
        self.told("told 2", "NoText")
        self.refused("told 4", NoText)
        self.told("told 4", "NoText")
        for number in ("6", "7", "10", "100", "5000", "9" * 60, "9" * 3900, "-1"):
            self.refused("told " + number, NoText)

    def test_numbers_that_are_not_written_so(self):
        for _ in range(12):
            self.told("names", "none")
        self.told("told 10", "none")
        for number in (
            "", "00", "01", "010", "+1", "-0", "-1", "1.0", "1/1", " 1", "1 ", "1 1", "one", "0x1", "1_0", "1\n", "1,0", "1e0",
        ):
            self.refused("told " + number, NoText)
        for line in ("told", "told ", "Told 1", "tell 1", " told 1", "told\n1"):
            self.refused(line, NoText)


class Refused(Desks):
    def test_what_is_no_line(self):
        lines = ["", " ", "  ", "\n", "ok", "done", "nonsense", "custom", "custom ", "custom a", "custom a ", "drop", "CUSTOM",
                 "custom  a point ;", "custom a  point ;", " custom a point ;", "custom a point ;\n", "custom\na point ;",
                 "custom a\npoint ;", "custom a point\n;", "custom a point \n", "custom a group \n", "custom point ;", "0"]
        for line in lines:
            self.refused(line, NoText)
        self.told("names", "none")

    def test_things_of_every_kind(self):
        self.ready("custom a point ;", PLAIN)
        every = things() + [["names"], ("names",), {"names": 1}, [["custom", "a", "point", ";"]], Custom(), Wish()]
        for thing in every:
            self.refused(thing, NoText)
        self.told("names", "a w")
        self.told("write 3/2 w a", "1;5")
        self.assertEqual(self.desk.notes(), ("done",) * 2 + ("NoText",) * len(every) + ("done",) * 2)

    def test_the_order_of_refusals(self):
        self.ready(PLAIN, "custom a point ;", "wish f places 0 2 figures 3 half-even minus grouped")
        # What is no such line goes ahead of names that aren't there, these in their order ahead of what comes beneath.
        self.refused("write 2/4 x y", NoText)
        self.refused("write 1/2 x y", NoName, "x")
        self.refused("write 1/2 w y", NoName, "y")
        self.refused("read x Y z", NoText)
        self.refused("read x y z", NoName, "x")
        self.refused("read w y z", NoName, "y")
        self.refused("read w a z", NoRead, "z")
        self.refused("kindly x z\n", NoText)
        self.refused("kindly x z", NoName, "x")
        self.refused("kindly a z", NoRead, "z")
        self.refused("parted f x Y", NoText)
        self.refused("parted f x a", NoName, "x")
        self.refused("parted f a y", NoName, "y")
        self.refused("parted f a a", NoText)
        self.refused("custom A group ;", NoText)
        self.refused("custom a group ;;", NoText)
        self.refused("custom a group ;", NoCustom, "group")

    def test_what_is_refused_changes_nothing(self):
        self.ready(PLAIN, "custom a point ;")
        for line in (
            "custom a group ;", "custom a group", "custom b group .", "wish w places", "wish v places 0 2 up minus", "drop b",
            "drop", "write 1 w b", "read w a x", "kindly a x", "parted w a b", "told 99", "x", "custom a words 3 ;",
            "wish w places 0 0 half-even minus plain scaled x",
        ):
            with self.assertRaises((NoText, NoName, NoCustom, NoRead)):
                self.desk.say(line)
            self.told("names", "a w")
            self.told("write -2469/2 w a", "-1,234;5")
            self.told("told 0", "ok")


class Whole(Desks):
    def test_notes(self):
        self.assertEqual(self.desk.notes(), ())
        self.assertIs(self.desk.notes().__class__, tuple)
        ends = []
        for line, end in (
            (PLAIN, "done"), (None, "NoText"), ("custom a group .", "NoCustom"), ("drop a", "NoName"), ("names", "done"),
            ("custom a point ;", "done"), ("kindly a x", "NoRead"), ("read w a x", "NoRead"), ("write 1 w x", "NoName"),
            ("told 1", "done"), ("told 90", "NoText"), ("\n", "NoText"), ("write 1 w a", "done"), ([], "NoText"),
        ):
            try:
                self.desk.say(line)
            except (NoText, NoName, NoCustom, NoRead):
                pass
            ends.append(end)
            self.assertEqual(self.desk.notes(), tuple(ends))
            self.assertEqual(self.desk.notes(), tuple(ends))

    def test_two_desks_share_nothing(self):
        other = Desk()
        self.ready(PLAIN, "custom a point ;")
        self.assertEqual(other.notes(), ())
        self.told("names", "none", other)
        self.refused("write 1 w a", NoName, "w", other)
        self.told("custom a point '", "ok", other)
        self.told("told 0", "none", other)
        self.told("write 3/2 w a", "1;5")
        self.told("drop a", "ok", other)
        self.told("kindly a 1;5", "3/2")
        self.assertEqual(self.desk.notes(), ("done",) * 4)
        self.assertEqual(other.notes(), ("done", "NoName", "done", "done", "done"))

    def test_methods_stand_in_the_class_itself(self):
        self.assertIn("say", vars(Desk))
        self.assertIn("notes", vars(Desk))
        self.assertEqual(Desk.__module__, "figuretexts.desk")

    def test_a_custom_told_anew_changes_only_what_comes_behind(self):
        self.ready(PLAIN, "custom a point ;", "custom b point ;")
        self.told("parted w a b", "alike")
        self.told("write 3/2 w b", "1;5")
        self.ready("custom b point '")
        self.told("parted w a b", "1/100")
        self.told("write 3/2 w b", "1'5")
        self.told("told 3", "alike")
        self.told("told 4", "1;5")
        self.told("write 3/2 w a", "1;5")

    def test_two_hundred_lines_held_against_a_plain_desk(self):
        chance = Random(200)
        for _ in range(12):
            desk, model = Desk(), PlainDesk()
            for _ in range(200):
                line = any_line(chance, model)
                answer, end = model.answer_to(line)
                if end == "done":
                    self.told(line, answer, desk)
                else:
                    with self.assertRaises((NoText, NoName, NoCustom, NoRead)) as caught:
                        desk.say(line)
                    self.assertEqual(caught.exception.__class__.__name__, end, line)
                    self.assertEqual(vars(caught.exception), answer, line)
                self.assertEqual(desk.notes(), tuple(model.ends))
            self.assertEqual(len(desk.notes()), 200)


FIELDS = (
    ("point", ";"), ("point", "."), ("point", ","), ("group", "'"), ("group", "none"), ("group", "blank"), ("group", "."),
    ("group", ","), ("sizes", "3 2"), ("sizes", "2"), ("least", "2"), ("minus", "( )"), ("minus", "- none"),
    ("plus", "none +"), ("figures", "ABCDEFGHIJ"), ("figures", "0123456789"), ("words", "3 k 6 M"), ("words", "none"),
    ("words", "3 ."), ("between", "to"), ("about", "~"),
)
KINDS = {
    "point": str, "figures": str, "between": str, "about": str, "least": int,
    "group": lambda text: {"none": "", "blank": " "}.get(text, text),
    "sizes": lambda text: tuple(int(word) for word in text.split()),
    "minus": lambda text: tuple("" if word == "none" else word for word in text.split()),
    "plus": lambda text: tuple("" if word == "none" else word for word in text.split()),
    "words": lambda text: () if text == "none" else tuple(
        (int(power), word) for power, word in zip(text.split()[::2], text.split()[1::2])),
}
WISH_WORDS = (
    "places 0 2 half-even minus grouped", "places 2 2 half-even all grouped", "places 0 0 up minus plain scaled",
    "places 0 2 figures 3 half-even minus grouped", "places 0 2 step 1/4 half-even minus grouped", "places 0 2",
)
NUMBERS = ("0", "5", "-5", "1/3", "-2469/2", "1234567", "999999/1000", "-1000000", "2/4", "05")
TEXTS = ("0", "5", "-5", "1,234.5", "1'234;5", "1.2k", "", " 5", "x", "+5", "(5)", "BCD", "1 234", "12,3")


def any_line(chance, model):
    """A line, most of them such as are not refused."""
    name, other = chance.choice("abc"), chance.choice("abcx")
    wish = chance.choice("uvvw")
    made = (
        lambda: " ".join(("custom", name) + chance.choice(FIELDS)), lambda: f"wish {wish} {chance.choice(WISH_WORDS)}",
        lambda: f"write {chance.choice(NUMBERS)} {wish} {name}", lambda: f"write {chance.choice(NUMBERS)} {wish} {name}",
        lambda: f"read {wish} {name} {chance.choice(TEXTS)}", lambda: f"kindly {name} {chance.choice(TEXTS)}",
        lambda: f"parted {wish} {name} {other}", lambda: f"told {chance.randrange(len(model.ends) + 2)}",
        lambda: "names", lambda: chance.choice(("drop " + other, "drop " + wish, "names", "nonsense", "names a", "")),
    )
    return chance.choice(made)()


class PlainDesk:
    """A desk made plainly, for lines of these kinds: answer_to tells (answer, `done`) or (the error's fields, name)."""

    def __init__(self):
        self.customs, self.wishes, self.answers, self.ends = {}, {}, [], []

    def answer_to(self, line):
        try:
            answer, end = self.find(line), "done"
        except (NoText, NoName, NoCustom, NoRead) as error:
            answer, end = vars(error), error.__class__.__name__
        self.answers.append(answer if end == "done" else end)
        self.ends.append(end)
        return answer, end

    def kept(self, sort, name):
        if name not in sort:
            raise NoName(name)
        return sort[name]

    def find(self, line):
        sort, _, rest = line.partition(" ")
        words = rest.split(" ")
        if sort == "custom":
            name, field, text = rest.split(" ", 2)
            self.customs[name] = self.customs.get(name, Custom()).but(**{field: KINDS[field](text)})
            return "ok"
        if sort == "wish":
            try:
                self.wishes[words[0]] = read_wish(rest.partition(" ")[2])
            except NoText:
                raise NoText(0)
            return "ok"
        if sort == "drop":
            if words[0] not in {**self.customs, **self.wishes}:
                raise NoName(words[0])
            self.customs.pop(words[0], None), self.wishes.pop(words[0], None)
            return "ok"
        if sort == "write":
            number = read_number(words[0])
            return written(number, self.kept(self.wishes, words[1]), self.kept(self.customs, words[2]))
        if sort == "read":
            wish, custom, text = rest.split(" ", 2)
            return str(read_strictly(text, self.kept(self.wishes, wish), self.kept(self.customs, custom)))
        if sort == "kindly":
            custom, text = rest.split(" ", 1)
            return str(read_kindly(text, self.kept(self.customs, custom))[0])
        if sort == "parted":
            wish = self.kept(self.wishes, words[0])
            one, other = [self.kept(self.customs, name) for name in words[1:]]
            if wish.figures is not None or wish.scaled:
                raise NoText(0)
            return str(least_parted(one, other, wish) or "alike")
        if sort == "told" and int(rest) < len(self.answers):
            return self.answers[int(rest)]
        if line == "names":
            return " ".join(sorted({**self.customs, **self.wishes})) or "none"
        raise NoText(0)
