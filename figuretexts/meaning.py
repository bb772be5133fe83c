"""What stands there where a number is written, and what number is meant by it."""

from figuretexts.figures import to_figures
from figuretexts.fitting import check_fit
from figuretexts.numbers import ten_to
from figuretexts.rounding import rounded


def stands(number, wish, custom):
    """(what stands there, power): the number, rounded as wished, is what stands there times 10 ** power."""
    check_fit(wish, custom)
    power, next_power = _powers_at(number.size(), wish, custom)
    shown = _rounded_at(number, power, wish)
    if next_power is not None and not shown.size().below(ten_to(next_power - power)):
        return _rounded_at(number, next_power, wish), next_power
    return shown, power


def meant(number, wish, custom):
    """The number that is meant where this number is written."""
    shown, power = stands(number, wish, custom)
    return shown.times(ten_to(power))


def _powers_at(size, wish, custom):
    """The power of the greatest word for a number of this size, 0 without a word; and the next greater, else None."""
    power = 0
    if wish.scaled:
        for next_power, _ in custom.words:
            if size.below(ten_to(next_power)):
                return power, next_power
            power = next_power
    return power, None


def _rounded_at(number, power, wish):
    """The number, in units of 10 ** power, rounded as wished."""
    units = number.times(ten_to(-power))
    if wish.figures is not None:
        return to_figures(units, wish.figures, way=wish.way)
    return rounded(units, step_of(wish), way=wish.way)


def step_of(wish):
    """The step by which a wish without figures rounds what stands there."""
    if wish.step is None:
        return ten_to(-wish.places[1])
    return wish.step
