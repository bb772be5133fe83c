"""Ranges of two numbers, written and read."""

from figuretexts.errors import NoRead, Unsorted
from figuretexts.fitting import check_fit
from figuretexts.reading import number_written
from figuretexts.writing import NO_SIGN, sign_and_body, with_unit


def range_written(low, high, wish, custom):
    """The text that is written of the range; Unsorted where the second number is below the first."""
    if high.below(low):
        raise Unsorted(low, high)
    low_sign, low_body = sign_and_body(low, wish, custom)
    high_sign, high_body = sign_and_body(high, wish, custom)
    low_text = with_unit(low_sign, low_body, wish)
    high_text = with_unit(high_sign, high_body, wish)
    if low_text == high_text:
        return custom.about + low_text
    if low_sign == NO_SIGN and high_sign == NO_SIGN:
        return with_unit(NO_SIGN, low_body + custom.between + high_body, wish)
    return low_text + custom.between + high_text


def read_range(text, wish, custom):
    """(low, high): the two numbers that are meant where just this text is written; NoRead of anything else."""
    check_fit(wish, custom)
    if not isinstance(text, str):
        raise NoRead(text)
    for low_text, high_text in _ends(text, wish, custom):
        low = number_written(low_text, wish, custom)
        high = number_written(high_text, wish, custom)
        if low is not None and high is not None and not high.below(low):
            if range_written(low, high, wish, custom) == text:
                return low, high
    raise NoRead(text)


def _ends(text, wish, custom):
    """The pairs of texts of which this may be the range."""
    if text.startswith(custom.about):
        end = text.removeprefix(custom.about)
        return [(end, end)]
    low, _, high = text.partition(custom.between)
    unit_ahead, unit_behind = wish.unit
    return [(low + unit_behind, unit_ahead + high), (low, high)]
