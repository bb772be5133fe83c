"""Texts read strictly: none but those that are written."""

from figuretexts.errors import NoRead
from figuretexts.fitting import check_fit
from figuretexts.shapes import number_of, shape_of
from figuretexts.writing import written


def read_strictly(text, wish, custom):
    """The one number that is meant where just this text is written; NoRead of anything else."""
    check_fit(wish, custom)
    number = number_written(text, wish, custom)
    if number is None:
        raise NoRead(text)
    return number


def number_written(text, wish, custom):
    """As read_strictly, of a wish that fits; None where there is no such number."""
    if not isinstance(text, str):
        return None
    shape = shape_of(text, wish.unit, custom)
    if shape is None:
        return None
    number = number_of(shape, custom)
    # What is meant means itself: where the text is written of any number, it is written of the one that it tells.
    if written(number, wish, custom) != text:
        return None
    return number
