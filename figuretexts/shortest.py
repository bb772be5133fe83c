"""The shortest figures that lead back to a kept number."""

from figuretexts.numbers import Number, power_of, ten_to
from figuretexts.rounding import round_paper, rounded


def shortest(number, step):
    """(count, places, paper) of the kept number, a multiple of the step.

    count times 10 ** -places leads back to it, by the fewest places and as near as can be; paper is None where places
    are 0, else the whole numbers next to the kept number by one place fewer, neither of which leads back.
    """
    places = _fewest_places(number, step)
    count = _nearest(number, places)
    if places == 0:
        return count, 0, None
    below = number.times(ten_to(places - 1)).floor()
    return count, places, (below, below + 1)


def _fewest_places(number, step):
    # What leads back with so many places does with more, too, so that halving finds the fewest. Where 10 ** -most is no
    # more than the step, the nearest is no more than half a step off, and less where it isn't the kept number itself.
    least = 0
    most = max(0, -power_of(step))
    while least < most:
        middle = (least + most) // 2
        if _leads_back(number, step, middle):
            most = middle
        else:
            least = middle + 1
    return least


def _leads_back(number, step, places):
    """Whether a number of so many places leads back: where any does, the nearest one does."""
    near = Number(_nearest(number, places)).times(ten_to(-places))
    return rounded(near, step) == number


def _nearest(number, places):
    """The count for which count times 10 ** -places is as near to the number as can be, of two the lesser one."""
    return round_paper(number.times(ten_to(places)), Number(1), way=_is_greater_nearer)[2]


def _is_greater_nearer(count, part):
    return 2 * part.top > part.bottom
