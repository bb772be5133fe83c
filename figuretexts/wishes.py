"""Wishes: how a number is to be rounded, and which of its figures and signs stand."""

from figuretexts.errors import NoWish
from figuretexts.kinds import is_whole_between, told_or
from figuretexts.numbers import Number, places_of
from figuretexts.options import PLACES, SIGNS, UNIT, WAY, WAYS
from figuretexts.rounding import is_step

MOST_PLACES = 12
MOST_FIGURES = 12
MOST_UNIT = 6
ALL_SIGNS = ("minus", "all")


class Wish:
    """How a number is to be written: by places, figures or a step, by which way, with which signs, groups and unit."""

    def __init__(self, *, places=PLACES, figures=None, step=None, way=WAY, signs=SIGNS, grouped=True, scaled=False,
                 unit=UNIT):
        wrong = _first_wrong(places, figures, step, way, signs, grouped, scaled, unit)
        if wrong is not None:
            raise NoWish(wrong)
        self.places = places
        self.figures = figures
        # A Number of its own: a caller may go on with the one that was handed in.
        self.step = None if step is None else Number(step.top, step.bottom)
        self.way = way
        self.signs = signs
        self.grouped = grouped
        self.scaled = scaled
        self.unit = unit

    def __eq__(self, other):
        return (
            isinstance(other, Wish)
            and self.places == other.places
            and self.figures == other.figures
            and self.step == other.step
            and self.way == other.way
            and self.signs == other.signs
            and self.grouped == other.grouped
            and self.scaled == other.scaled
            and self.unit == other.unit
        )

    def but(self, *, places=None, figures=None, step=None, way=None, signs=None, grouped=None, scaled=None, unit=None):
        """The Wish with these fields otherwise; those left out, or None, are as here.

        Figures that are told take the step away that is here, and a step the figures.
        """
        old_figures = self.figures if step is None else None
        old_step = self.step if figures is None else None
        return Wish(
            places=told_or(places, self.places),
            figures=told_or(figures, old_figures),
            step=told_or(step, old_step),
            way=told_or(way, self.way),
            signs=told_or(signs, self.signs),
            grouped=told_or(grouped, self.grouped),
            scaled=told_or(scaled, self.scaled),
            unit=told_or(unit, self.unit),
        )


def _first_wrong(places, figures, step, way, signs, grouped, scaled, unit):
    """The name of the first field that isn't so, the later one of two that don't go together; None where all are so."""
    if not _is_places(places):
        return "places"
    if figures is not None and not is_whole_between(figures, 1, MOST_FIGURES):
        return "figures"
    if step is not None and (figures is not None or not is_step_within(step, places[1])):
        return "step"
    if way not in WAYS:
        return "way"
    if signs not in ALL_SIGNS:
        return "signs"
    if not isinstance(grouped, bool):
        return "grouped"
    if not isinstance(scaled, bool) or (scaled and step is not None):
        return "scaled"
    if not _is_unit(unit):
        return "unit"
    return None


def _is_places(thing):
    """Whether it is (fewest, most)."""
    return (
        isinstance(thing, tuple)
        and len(thing) == 2
        and all([is_whole_between(part, 0, MOST_PLACES) for part in thing])
        and thing[0] <= thing[1]
    )


def is_step_within(thing, most):
    """Whether it is a step that is written with so many places, at most, behind the point."""
    if not is_step(thing):
        return False
    places = places_of(thing)
    return places is not None and places <= most


def _is_unit(thing):
    """Whether it is (ahead, behind): blanks may stand in both, but not at the outer ends."""
    return (
        isinstance(thing, tuple)
        and len(thing) == 2
        and all([isinstance(part, str) and len(part) <= MOST_UNIT for part in thing])
        and not thing[0].startswith(" ")
        and not thing[1].endswith(" ")
    )
