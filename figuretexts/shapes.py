"""Of what a text that tells a number is made."""

from figuretexts.digits import whole_of
from figuretexts.numbers import Number, ten_to


class Shape:
    """The parts of a text that tells a number.

    sign is its pair (ahead, behind), start the number of the sign with which its figures begin; ahead are the figures
    ahead of the point, with group signs between some, behind the figures behind it; power is the power of its word.
    """

    def __init__(self, sign, start, ahead, behind, power):
        self.sign = sign
        self.start = start
        self.ahead = ahead
        self.behind = behind
        self.power = power


def shape_of(text, unit, custom):
    """The Shape of the text, with this unit (ahead, behind) and the signs of the custom; None where it has none.

    Group signs stand between any two figures ahead of the point, and noughts begin them, as they may.
    """
    # No sign is in two of the fields and the unit, so that a text has only one such shape.
    for sign in (custom.minus, custom.plus, ("", "")):
        ahead = sign[0] + unit[0]
        behind = unit[1] + sign[1]
        start = len(ahead)
        end = len(text) - len(behind)
        if start < end and text.startswith(ahead) and text.endswith(behind):
            parts = _parts_of(text[start:end], custom)
            if parts is not None:
                return Shape(sign, start, parts[0], parts[1], parts[2])
    return None


def number_of(shape, custom):
    """The number that a text of this shape tells."""
    digits = "".join([
        str(custom.figures.index(sign)) for sign in shape.ahead + shape.behind if sign != custom.group
    ])
    whole = whole_of(digits)
    if shape.sign == custom.minus:
        whole = -whole
    return Number(whole).times(ten_to(shape.power - len(shape.behind)))


def _parts_of(body, custom):
    """(ahead, behind, power), as in a Shape, of what stands within sign and unit; None where it is no such."""
    signs = custom.figures + custom.point + custom.group
    end = 0
    while end < len(body) and body[end] in signs:
        end += 1
    power = _power_of(body[end:], custom)
    ahead, point, behind = body[:end].partition(custom.point)
    if power is None or not _are_groups(ahead, custom):
        return None
    if point != "" and not _are_figures(behind, custom):
        return None
    return ahead, behind, power


def _power_of(word, custom):
    """The power of the word, 0 where there is none; None where it is no word of the custom."""
    if word == "":
        return 0
    for power, own in custom.words:
        if own == word:
            return power
    return None


def _are_groups(text, custom):
    """Whether it is one figure or more, with one group sign, perhaps, between any two."""
    if custom.group == "":
        return _are_figures(text, custom)
    return all([_are_figures(part, custom) for part in text.split(custom.group)])


def _are_figures(text, custom):
    """Whether it is one figure or more."""
    return text != "" and all([sign in custom.figures for sign in text])
