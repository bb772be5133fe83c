"""Rounding to so many figures."""

from figuretexts.numbers import Number, power_of, ten_to
from figuretexts.options import WAY
from figuretexts.rounding import rounded


def to_figures(number, figures, *, way=WAY):
    """The number rounded, by one of WAYS or by a function, to so many figures, from 1 on; nought is nought."""
    if number.top == 0:
        return Number(0)
    step = ten_to(power_of(number) - figures + 1)
    return rounded(number, step, way=way)
