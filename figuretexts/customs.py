"""The customs by which a land writes its numbers."""

from figuretexts.errors import NoCustom
from figuretexts.kinds import is_signs, is_whole_between, told_or
from figuretexts.options import ABOUT, BETWEEN, FIGURES, GROUP, LEAST, MINUS, PLUS, POINT, SIZES


class Custom:
    """How a land writes its numbers: figures, point, groups, signs, words for powers of ten, words of ranges."""

    def __init__(self, *, point=POINT, group=GROUP, sizes=SIZES, least=LEAST, minus=MINUS, plus=PLUS, figures=FIGURES,
                 words=(), between=BETWEEN, about=ABOUT):
        wrong = first_wrong((
            ("point", point), ("group", group), ("sizes", sizes), ("least", least), ("minus", minus), ("plus", plus),
            ("figures", figures), ("words", words), ("between", between), ("about", about),
        ))
        if wrong is not None:
            raise NoCustom(wrong)
        self.point = point
        self.group = group
        self.sizes = sizes
        self.least = least
        self.minus = minus
        self.plus = plus
        self.figures = figures
        self.words = words
        self.between = between
        self.about = about

    def __eq__(self, other):
        return (
            isinstance(other, Custom)
            and self.point == other.point
            and self.group == other.group
            and self.sizes == other.sizes
            and self.least == other.least
            and self.minus == other.minus
            and self.plus == other.plus
            and self.figures == other.figures
            and self.words == other.words
            and self.between == other.between
            and self.about == other.about
        )

    def but(self, *, point=None, group=None, sizes=None, least=None, minus=None, plus=None, figures=None, words=None,
            between=None, about=None):
        """The Custom with these fields otherwise; those left out, or None, are as here."""
        return Custom(
            point=told_or(point, self.point),
            group=told_or(group, self.group),
            sizes=told_or(sizes, self.sizes),
            least=told_or(least, self.least),
            minus=told_or(minus, self.minus),
            plus=told_or(plus, self.plus),
            figures=told_or(figures, self.figures),
            words=told_or(words, self.words),
            between=told_or(between, self.between),
            about=told_or(about, self.about),
        )


def first_wrong(fields):
    """The first name of these (name, thing) of which the thing isn't so, or has a sign of one ahead; else None."""
    ahead = ""
    for name, thing in fields:
        fits = KINDS[name]
        if not fits(thing):
            return name
        signs = _signs_of(thing)
        if any([sign in ahead for sign in signs]):
            return name
        ahead = ahead + signs
    return None


def _signs_of(field):
    """All the signs in a field that is so: of a text itself, of a tuple those of its parts, of a number none."""
    if isinstance(field, str):
        return field
    if isinstance(field, tuple):
        return "".join([_signs_of(part) for part in field])
    return ""


def _is_point(thing):
    return is_signs(thing, 1, 1)


def _is_group(thing):
    # Of all fields this one alone may be a blank.
    return thing == " " or is_signs(thing, 0, 1)


def _is_sizes(thing):
    return (
        isinstance(thing, tuple)
        and 1 <= len(thing) <= 4
        and all([is_whole_between(length, 1, 6) for length in thing])
    )


def _is_least(thing):
    return is_whole_between(thing, 1, 4)


def _is_sign_pair(thing):
    """Whether it is (ahead, behind) as minus and plus are."""
    return (
        isinstance(thing, tuple)
        and len(thing) == 2
        and all([is_signs(signs, 0, 3) for signs in thing])
        and thing != ("", "")
    )


def _is_figures(thing):
    return is_signs(thing, 10, 10) and len(set(thing)) == 10


def _is_words(thing):
    if not isinstance(thing, tuple) or len(thing) > 6 or not all([_is_word(pair) for pair in thing]):
        return False
    powers = [pair[0] for pair in thing]
    words = [pair[1] for pair in thing]
    return powers == sorted(set(powers)) and len(set(words)) == len(words)


def _is_word(thing):
    """Whether it is (power, word)."""
    return (
        isinstance(thing, tuple)
        and len(thing) == 2
        and is_whole_between(thing[0], 1, 30)
        and is_signs(thing[1], 1, 3)
    )


def _is_mark(thing):
    """Whether it is a text as between and about are."""
    return is_signs(thing, 1, 3)


KINDS = {
    "point": _is_point,
    "group": _is_group,
    "sizes": _is_sizes,
    "least": _is_least,
    "minus": _is_sign_pair,
    "plus": _is_sign_pair,
    "figures": _is_figures,
    "words": _is_words,
    "between": _is_mark,
    "about": _is_mark,
}
