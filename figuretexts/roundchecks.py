"""The checker of papers of roundings: it holds a paper against the rules, and rounds nothing anew."""

from figuretexts.kinds import is_whole


def round_holds(number, step, way, thing):
    """Whether the thing, anything, is the paper (low, high, taken) of this number, step and way of WAYS."""
    if not isinstance(thing, tuple) or len(thing) != 3 or not all([is_whole(part) for part in thing]):
        return False
    low, high, taken = thing
    steps = number.over(step)
    if not _are_neighbours(steps, low, high):
        return False
    if taken == low:
        return low == high or _goes_to(steps, way, low, high)
    return taken == high and _goes_to(steps, way, high, low)


def _are_neighbours(steps, low, high):
    """Whether so many steps stand between these two, or are a whole number that is both."""
    if steps.bottom == 1:
        return low == high == steps.top
    return high == low + 1 and low * steps.bottom < steps.top < high * steps.bottom


def _goes_to(steps, way, taken, other):
    """Whether so many steps, between these two neighbours, go to the one taken rather than to the other."""
    if way.startswith("half "):
        off_taken = abs(taken * steps.bottom - steps.top)
        off_other = abs(other * steps.bottom - steps.top)
        if off_taken != off_other:
            return off_taken < off_other
    rule = RULES[way.removeprefix("half ")]
    return rule(taken, other)


def _is_from_nought(taken, other):
    return abs(taken) > abs(other)


def _is_to_nought(taken, other):
    return abs(taken) < abs(other)


def _is_greater(taken, other):
    return taken > other


def _is_lesser(taken, other):
    return taken < other


def _is_even(taken, other):
    return taken % 2 == 0


def _is_odd(taken, other):
    return taken % 2 == 1


# By what a way of this name, and a way `half` of this name at a half, takes the one rather than the other neighbour.
RULES = {
    "up": _is_from_nought,
    "down": _is_to_nought,
    "high": _is_greater,
    "low": _is_lesser,
    "even": _is_even,
    "odd": _is_odd,
}
