"""Columns of numbers: their figures of the ones stand at one place."""

from figuretexts.errors import NoRead
from figuretexts.fitting import check_fit
from figuretexts.reading import number_written
from figuretexts.writing import written


def column(numbers, wish, custom):
    """The texts of these numbers, one or more, with blanks ahead and behind."""
    return _aligned([written(number, wish, custom) for number in numbers], custom)


def read_column(thing, wish, custom):
    """The numbers meant of which just this column is told; NoRead of anything else."""
    check_fit(wish, custom)
    if not isinstance(thing, tuple) or len(thing) == 0:
        raise NoRead(thing)
    texts = []
    numbers = []
    for text in thing:
        # No text that is written begins or ends with a blank.
        bare = text.strip(" ") if isinstance(text, str) else None
        number = number_written(bare, wish, custom)
        if number is None:
            raise NoRead(thing)
        texts.append(bare)
        numbers.append(number)
    if _aligned(texts, custom) != thing:
        raise NoRead(thing)
    return tuple(numbers)


def _aligned(texts, custom):
    """The texts, all with as few blanks ahead and behind as put their figures of the ones at one place."""
    places = [_place_of_ones(text, custom) for text in texts]
    ahead = max(places)
    behind = max([len(text) - place for text, place in zip(texts, places)])
    return tuple([
        " " * (ahead - place) + text + " " * (behind - len(text) + place) for text, place in zip(texts, places)
    ])


def _place_of_ones(text, custom):
    """The place, in a written text, of the last figure ahead of the point."""
    ahead = text.partition(custom.point)[0]
    # No sign of unit, words and signs is a figure.
    return max([place for place, sign in enumerate(ahead) if sign in custom.figures])
