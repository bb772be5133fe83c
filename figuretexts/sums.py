"""Parts rounded so that they come to their sum."""

from math import lcm
from figuretexts.numbers import Number, total_of
from figuretexts.rounding import place_of, round_paper


def parts_rounded(parts, step):
    """(counts, paper): to how many steps each part is rounded, such that they come to their rounded sum.

    The parts furthest beyond their lesser neighbours are put to the greater ones, of parts as far beyond the earlier
    ones. The paper is a Number from 0 to 1: those put to the greater neighbour are so much of a step, or more, beyond
    the lesser one, the others that are no multiples so much or less.
    """
    places = [place_of(part, step) for part in parts]
    lows = [low for low, _, _ in places]
    beyond = [part for _, _, part in places]
    total = round_paper(total_of(parts), step)[2]
    greater = _furthest_first(beyond)[:total - sum(lows)]
    counts = tuple([low + 1 if at in greater else low for at, low in enumerate(lows)])
    if greater == []:
        return counts, Number(1)
    return counts, beyond[greater[-1]]


def _furthest_first(beyond):
    """The places of these parts, that of the greatest first, of parts as great that of the earlier one first."""
    bottom = 1
    for part in beyond:
        bottom = lcm(bottom, part.bottom)
    # Less than nought, so that the greatest comes first where the places, behind it, rise.
    ranks = [(-part.top * (bottom // part.bottom), at) for at, part in enumerate(beyond)]
    return [at for _, at in sorted(ranks)]
