"""Whether a wish fits a custom: whether the signs of its unit are told from all signs of the custom."""

from figuretexts.errors import NoFit


def check_fit(wish, custom):
    """NoFit of the first sign of the wish's unit that is in a field of the custom, or a line end."""
    sign = first_clash(wish, custom)
    if sign is not None:
        raise NoFit(sign)


def first_clash(wish, custom):
    """The first sign of the wish's unit that is in a field of the custom, or a line end; None where the wish fits."""
    taken = _signs_of(custom) + "\n"
    for sign in "".join(wish.unit):
        if sign in taken:
            return sign
    return None


def _signs_of(custom):
    """All the signs in the fields of the custom."""
    words = [word for _, word in custom.words]
    return "".join([
        custom.point, custom.group, *custom.minus, *custom.plus, custom.figures, *words, custom.between, custom.about,
    ])
