"""The texts of customs: ten lines, one for each field."""

from figuretexts.customs import Custom, first_wrong
from figuretexts.errors import NoText
from figuretexts.words import small_whole

NAMES = ("point", "group", "sizes", "least", "minus", "plus", "figures", "words", "between", "about")


def show_custom(custom):
    """The ten lines of the custom, parted by line ends."""
    fields = (
        custom.point, custom.group, custom.sizes, custom.least, custom.minus, custom.plus, custom.figures, custom.words,
        custom.between, custom.about,
    )
    return "\n".join([_line(name, field) for name, field in zip(NAMES, fields)])


def read_custom(text):
    """The Custom of which just this text is written; NoText of the number of the first wrong line of anything else."""
    if not isinstance(text, str):
        raise NoText(0)
    lines = text.split("\n")
    fields = [(name, _field(name, line)) for name, line in zip(NAMES, lines)]
    wrong = first_wrong(fields)
    if wrong is not None:
        raise NoText(NAMES.index(wrong))
    if len(lines) != len(NAMES):
        raise NoText(min(len(lines), len(NAMES)))
    told = dict(fields)
    return Custom(**told)


def read_field(line):
    """(name, field): what this line of a custom's text tells; NoText(0) where no custom has such a line."""
    name = line.partition(" ")[0]
    if name not in NAMES:
        raise NoText(0)
    field = _field(name, line)
    if first_wrong(((name, field),)) is not None:
        raise NoText(0)
    return name, field


def _line(name, field):
    """The line of this field of a custom."""
    show = SHOWS[name]
    return f"{name} {show(field)}"


def _field(name, line):
    """What the line tells of the field of this name; None, which no field is, where it isn't written so."""
    read = READS[name]
    field = read(line.partition(" ")[2])
    # One field has many such lines (blanks, noughts ahead, no name); just one of them is written.
    if field is None or _line(name, field) != line:
        return None
    return field


def _same(text):
    return text


def _show_group(group):
    if group == "":
        return "none"
    if group == " ":
        return "blank"
    return group


def _read_group(text):
    if text == "none":
        return ""
    if text == "blank":
        return " "
    return text


def _show_sizes(sizes):
    return " ".join([str(length) for length in sizes])


def _read_sizes(text):
    return tuple([small_whole(word) for word in text.split(" ")])


def _show_least(least):
    return str(least)


def _read_least(text):
    return small_whole(text)


def _show_pair(pair):
    return " ".join([signs or "none" for signs in pair])


def _read_pair(text):
    return tuple(["" if signs == "none" else signs for signs in text.split(" ")])


def _show_words(words):
    return " ".join([f"{power} {word}" for power, word in words]) or "none"


def _read_words(text):
    """The pairs (power, word), the powers None where they are none; None where a word lacks."""
    if text == "none":
        return ()
    parts = text.split(" ")
    if len(parts) % 2 == 1:
        return None
    return tuple([(small_whole(parts[at]), parts[at + 1]) for at in range(0, len(parts), 2)])


SHOWS = {
    "point": _same,
    "group": _show_group,
    "sizes": _show_sizes,
    "least": _show_least,
    "minus": _show_pair,
    "plus": _show_pair,
    "figures": _same,
    "words": _show_words,
    "between": _same,
    "about": _same,
}

READS = {
    "point": _same,
    "group": _read_group,
    "sizes": _read_sizes,
    "least": _read_least,
    "minus": _read_pair,
    "plus": _read_pair,
    "figures": _same,
    "words": _read_words,
    "between": _same,
    "about": _same,
}
