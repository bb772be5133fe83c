"""The checker of parts that come to their sum: it holds the counts against their paper, and rounds nothing anew."""

from figuretexts.kinds import is_whole
from figuretexts.numbers import Number, total_of


def sum_holds(parts, step, thing):
    """Whether the thing, anything, is such (counts, paper) of these parts and this step.

    Which of parts as far beyond their lesser neighbours are put to the greater ones isn't asked.
    """
    if not _is_told(thing, len(parts)):
        return False
    counts, paper = thing
    for part, count in zip(parts, counts):
        if not _is_put_so(part.over(step), count, paper):
            return False
    return _is_rounded(total_of(parts).over(step), sum(counts))


def _is_told(thing, many):
    """Whether it is so many whole numbers, and a Number from 0 to 1."""
    return (
        isinstance(thing, tuple)
        and len(thing) == 2
        and isinstance(thing[0], tuple)
        and len(thing[0]) == many
        and all([is_whole(count) for count in thing[0]])
        and isinstance(thing[1], Number)
        and 0 <= thing[1].top <= thing[1].bottom
    )


def _is_put_so(steps, count, paper):
    """Whether a part of so many steps is put to one of its neighbours, and to which the paper lets it be."""
    off = steps.less(Number(count))
    if off.top == 0:
        return True
    if off.top > 0:
        return off.below(Number(1)) and not paper.below(off)
    beyond = off.more(Number(1))
    return beyond.top > 0 and not beyond.below(paper)


def _is_rounded(steps, total):
    """Whether so many steps are rounded, by `half even`, to this many."""
    doubled = 2 * abs(steps.top - total * steps.bottom)
    if doubled == steps.bottom:
        return total % 2 == 0
    return doubled < steps.bottom
