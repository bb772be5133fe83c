"""The checker of the shortest figures that lead back: it holds them against their paper, and looks for none anew."""

from figuretexts.kinds import is_whole, is_whole_between
from figuretexts.numbers import Number, ten_to

MOST_PLACES = 60


def shortest_holds(number, step, thing):
    """Whether the thing, anything, is such a triple (count, places, paper) of this kept number and its step.

    The count may be any that leads back.
    """
    if not isinstance(thing, tuple) or len(thing) != 3:
        return False
    count, places, paper = thing
    if not is_whole(count) or not is_whole_between(places, 0, MOST_PLACES):
        return False
    if not _leads_back(count, places, number, step):
        return False
    if places == 0:
        return paper is None
    return _is_paper(paper) and _shows_none(paper, places - 1, number, step)


def _is_paper(thing):
    """Whether it is two whole numbers, one behind the other."""
    return (
        isinstance(thing, tuple)
        and len(thing) == 2
        and all([is_whole(part) for part in thing])
        and thing[1] == thing[0] + 1
    )


def _shows_none(paper, places, number, step):
    """Whether the paper shows that no number of so many places leads back.

    That is so where neither of the two next to the kept number does: all others are further off.
    """
    below, above = paper
    shifted = number.times(ten_to(places))
    return (
        Number(below).below(shifted)
        and shifted.below(Number(above))
        and not _leads_back(below, places, number, step)
        and not _leads_back(above, places, number, step)
    )


def _leads_back(count, places, kept, step):
    """Whether count times 10 ** -places is less than half a step off, or half a step off an even number of steps."""
    off = Number(count).times(ten_to(-places)).less(kept).size()
    half = step.over(Number(2))
    if off == half:
        return kept.over(step).top % 2 == 0
    return off.below(half)
