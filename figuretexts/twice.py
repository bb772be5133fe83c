"""Rounding twice, by a fine step and then by a coarse one."""

from figuretexts.numbers import Number
from figuretexts.rounding import rounded


def parts_twice(way, fine, coarse):
    """A Number that, rounded by the fine step and then the coarse one, comes elsewhere than by the coarse one at once.

    The way is one of WAYS, the coarse step a whole number of times as great as the fine one, from 2 on; None is told
    where no number comes elsewhere.
    """
    half = coarse.over(Number(2))
    little = fine.over(Number(4))
    # The fine rounding doesn't cross a multiple of the coarse step, so that none parts by up, down, high and low. By
    # the others one parts only where the fine rounding moves it onto a half of the coarse step or across it. Onto it,
    # where it is a multiple of the fine step: then it goes with one of the two numbers a little beside it, and parts
    # the other. Across it, from the half itself, where that is a half of the fine step, too: the ways of both steps
    # then go to different sides at each such half, or at none, so that the first one is enough.
    for number in (half.less(little), half, half.more(little)):
        twice = rounded(rounded(number, fine, way=way), coarse, way=way)
        if twice != rounded(number, coarse, way=way):
            return number
    return None
