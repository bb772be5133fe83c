"""Texts read kindly: blanks, group signs, noughts and a plus are passed over, and told."""

from figuretexts.errors import NoRead
from figuretexts.grouping import group_gaps
from figuretexts.shapes import number_of, shape_of

NO_UNIT = ("", "")


def read_kindly(text, custom):
    """(number, passed): the number that the text tells, and (place, what) of all that is passed over, rising."""
    told = _read(text, custom)
    if told is None:
        raise NoRead(text)
    return told


def read_by_all(text, customs):
    """(number, first custom's number) for each unlike number that the text is read as by one of the customs."""
    told = []
    for at, custom in enumerate(customs):
        reading = _read(text, custom)
        if reading is not None and reading[0] not in [number for number, _ in told]:
            told.append((reading[0], at))
    return tuple(told)


def _read(text, custom):
    """As read_kindly; None where the text isn't read."""
    if not isinstance(text, str):
        return None
    kept = _kept(text, custom)
    shape = shape_of("".join([text[place] for place in kept]), NO_UNIT, custom)
    if shape is None:
        return None
    places = kept[shape.start:shape.start + len(shape.ahead)]
    passed = _blanks(text, kept) + _plus(shape.sign, kept, custom)
    passed = passed + _groups(shape.ahead, places, custom) + _noughts(shape.ahead, places, custom)
    return number_of(shape, custom), tuple(sorted(passed))


def _kept(text, custom):
    """The places of the signs that aren't left out: all but blanks, and of blanks those that are group signs."""
    shown = [place for place, sign in enumerate(text) if sign != " "]
    if custom.group != " ":
        return shown
    end = len(text.partition(custom.point)[0])
    kept = []
    for place in shown:
        if kept != [] and place < end and text[place] in custom.figures:
            last = kept[-1]
            if last + 1 < place and text[last] in custom.figures:
                kept.append(last + 1)
        kept.append(place)
    return kept


def _blanks(text, kept):
    """What is passed over of the blanks: they alone aren't kept."""
    known = {place: True for place in kept}
    return [(place, "blank") for place in range(len(text)) if place not in known]


def _groups(ahead, places, custom):
    """What is passed over of group signs; places are those of the signs ahead of the point."""
    many = len([sign for sign in ahead if sign != custom.group])
    gaps = {gap: True for gap in group_gaps(many, custom)}
    passed = []
    behind = 0
    parted = False
    for place, sign in zip(places, ahead):
        if sign == custom.group:
            parted = True
            if behind not in gaps:
                passed.append((place, "group"))
        else:
            if behind in gaps and not parted:
                passed.append((place, "lacking"))
            behind += 1
            parted = False
    return passed


def _noughts(ahead, places, custom):
    """What is passed over of noughts; places are those of the signs ahead of the point."""
    figures = [(place, sign) for place, sign in zip(places, ahead) if sign != custom.group]
    passed = []
    for place, sign in figures[:-1]:
        if sign != custom.figures[0]:
            break
        passed.append((place, "nought"))
    return passed


def _plus(sign, kept, custom):
    """What is passed over of a plus."""
    if sign != custom.plus:
        return []
    if custom.plus[0] != "":
        return [(kept[0], "plus")]
    return [(kept[len(kept) - len(custom.plus[1])], "plus")]
