"""Two customs held together: where their texts part."""

from figuretexts.fitting import check_fit
from figuretexts.meaning import step_of
from figuretexts.numbers import Number, ten_to
from figuretexts.writing import written

# Of so many multiples of a step some begin with each figure from 1 to 9. By a step from 1 on, below 10 (all others are
# such a one times a power of ten), one is from 10 to 20, one from 20 to 30 and so on; ninety steps come to 90 at least.
MANY_BEGINNINGS = 90
# Groups, of four lengths up to 6, that part at all do so where no more figures stand ahead of the point.
MOST_AHEAD = 24


def least_parted(one, other, wish):
    """The least number that is meant by the wish at which the customs write unlike texts; None where there is none.

    The wish is without figures, and not scaled. Least is meant by size, of one size the number above nought.
    """
    check_fit(wish, one)
    check_fit(wish, other)
    step = step_of(wish)
    for count in _counts(one, other, step):
        for signed in (count, -count):
            number = step.times(Number(signed))
            if written(number, wish, one) != written(number, wish, other):
                return number
    return None


def is_by_steps(wish):
    """Whether it is a wish by which customs can be held together: without figures, not scaled."""
    return wish.figures is None and not wish.scaled


def _counts(one, other, step):
    """Counts of steps, rising, among which is the first at which the customs part, if they do."""
    first = [_first_count(power, step) for power in range(1, MOST_AHEAD)]
    # With like figures no sign, point or group sign can be taken for a figure. Whether two texts are alike hangs then
    # only on the number's sign, on whether there is a point (one step has it, or none) and on how many figures stand
    # ahead of it: nought, one step and the first numbers of so many figures are enough.
    if one.figures == other.figures:
        return sorted(set([0, 1] + first))
    # With unlike figures two texts may be alike by chance (-5 and 5 behind its minus, where that is 5 and the figure
    # is -). Nought parts where its figure is unlike; else a number above nought does that begins with an unlike figure;
    # or, where pluses of unlike lengths stand ahead, one of the first two.
    return sorted(set(list(range(MANY_BEGINNINGS + 1)) + first))


def _first_count(power, step):
    """How many steps are needed to come to 10 ** power."""
    steps = ten_to(power).over(step)
    return -(-steps.top // steps.bottom)
