"""Of anything: whether it is a whole number, or a text, of such a kind, or told at all."""


def is_whole(thing):
    """Whether it is a whole number; a truth is none."""
    return isinstance(thing, int) and not isinstance(thing, bool)


def is_whole_between(thing, least, most):
    """Whether it is a whole number from least to most."""
    return is_whole(thing) and least <= thing <= most


def is_signs(thing, fewest, most):
    """Whether it is a text of so many signs, none of them a blank or a line end."""
    return isinstance(thing, str) and fewest <= len(thing) <= most and " " not in thing and "\n" not in thing


def told_or(new, old):
    """The new one; the old one where the new one is None (no signs, nought and False are told, None alone isn't)."""
    if new is None:
        return old
    return new
