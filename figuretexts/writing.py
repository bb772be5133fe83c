"""Numbers written, by a wish and a custom."""

from figuretexts.digits import digits_of
from figuretexts.grouping import in_groups
from figuretexts.meaning import stands
from figuretexts.numbers import places_of, power_of, ten_to

NO_SIGN = ("", "")


def written(number, wish, custom):
    """The text that is written of the number."""
    sign, body = sign_and_body(number, wish, custom)
    return with_unit(sign, body, wish)


def sign_and_body(number, wish, custom):
    """((the sign ahead, behind), the figures and the word of the power) of the text."""
    shown, power = stands(number, wish, custom)
    return _sign_of(shown, wish, custom), _figures_of(shown.size(), wish, custom) + _word_of(power, custom)


def with_unit(sign, body, wish):
    """The text with this sign and these figures and word."""
    return sign[0] + wish.unit[0] + body + wish.unit[1] + sign[1]


def _sign_of(shown, wish, custom):
    if shown.top < 0:
        return custom.minus
    if shown.top > 0 and wish.signs == "all":
        return custom.plus
    return NO_SIGN


def _word_of(power, custom):
    for word_power, word in custom.words:
        if word_power == power:
            return word
    return ""


def _figures_of(size, wish, custom):
    """The figures of this size, that stands there, with the point and group signs."""
    places = _places_behind(size, wish)
    whole = size.times(ten_to(places)).top
    digits = digits_of(whole).zfill(places + 1)
    figures = "".join([custom.figures[int(digit)] for digit in digits])
    point = len(figures) - places
    ahead = figures[:point]
    behind = figures[point:]
    if wish.grouped:
        ahead = in_groups(ahead, custom)
    if behind == "":
        return ahead
    return ahead + custom.point + behind


def _places_behind(size, wish):
    """How many figures stand behind the point."""
    if wish.figures is None:
        return max(places_of(size), wish.places[0])
    if size.top == 0:
        return wish.figures - 1
    return max(wish.figures - 1 - power_of(size), 0)
