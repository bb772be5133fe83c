"""Rounding by a step, to one of the two neighbours."""

from figuretexts.numbers import Number
from figuretexts.options import WAY


def neighbours(number, step):
    """The greatest multiple of the step that isn't above the number, and the least that isn't below it."""
    low, high, _ = place_of(number, step)
    return step.times(Number(low)), step.times(Number(high))


def rounded(number, step, *, way=WAY):
    """The neighbour to which the number is rounded, by one of WAYS or by a function of (count, part)."""
    taken = round_paper(number, step, way=way)[2]
    return step.times(Number(taken))


def round_paper(number, step, *, way=WAY):
    """(low, high, taken): the steps of both neighbours, and of the one to which the number is rounded."""
    low, high, part = place_of(number, step)
    if low == high:
        return low, high, low
    rule = way
    if isinstance(way, str):
        rule = RULES[way]
    # A function that is handed in may tell 1, which is == True and yet stands for the lesser neighbour.
    if rule(low, part) is True:
        return low, high, high
    return low, high, low


def is_step(thing):
    """Whether it, anything, is a step: a Number above nought."""
    return isinstance(thing, Number) and thing.top > 0


def place_of(number, step):
    """(low, high, part): the steps of both neighbours, and what part of a step the number is beyond the lesser one."""
    steps = number.over(step)
    low = steps.floor()
    part = steps.less(Number(low))
    high = low if part.top == 0 else low + 1
    return low, high, part


# Each rule tells, as a function that is handed in does, whether the greater neighbour is taken.


def _by_up(low, part):
    # From low 0 on the number is above nought: its greater neighbour is then the one from nought.
    return low >= 0


def _by_down(low, part):
    return low < 0


def _by_high(low, part):
    return True


def _by_low(low, part):
    return False


def _by_half_up(low, part):
    return _nearer(part, low >= 0)


def _by_half_down(low, part):
    return _nearer(part, low < 0)


def _by_half_even(low, part):
    return _nearer(part, low % 2 == 1)


def _by_half_odd(low, part):
    return _nearer(part, low % 2 == 0)


def _nearer(part, at_half):
    """Whether the greater neighbour is the nearer one; at_half where both are as near."""
    doubled = 2 * part.top
    if doubled == part.bottom:
        return at_half
    return doubled > part.bottom


RULES = {
    "up": _by_up,
    "down": _by_down,
    "high": _by_high,
    "low": _by_low,
    "half up": _by_half_up,
    "half down": _by_half_down,
    "half even": _by_half_even,
    "half odd": _by_half_odd,
}
