"""Findings: what was told by the other modules, with all that it was told of, checked."""

from figuretexts.customs import Custom
from figuretexts.fitting import first_clash
from figuretexts.meaning import meant
from figuretexts.numbers import Number
from figuretexts.options import WAYS
from figuretexts.parting import is_by_steps, least_parted
from figuretexts.roundchecks import round_holds
from figuretexts.rounding import is_step
from figuretexts.shortchecks import shortest_holds
from figuretexts.sumchecks import sum_holds
from figuretexts.wishes import Wish
from figuretexts.writing import written


def finding_holds(thing):
    """Whether the thing, anything, is a finding that holds."""
    if not isinstance(thing, tuple) or len(thing) == 0:
        return False
    sort = thing[0]
    if not isinstance(sort, str) or sort not in CHECKS:
        return False
    check = CHECKS[sort]
    return check(thing[1:])


# Each check is asked of what stands behind the sort's name, of any kinds and however many.


def _rounded_holds(parts):
    if len(parts) != 4:
        return False
    number, step, way, paper = parts
    return isinstance(number, Number) and is_step(step) and way in WAYS and round_holds(number, step, way, paper)


def _meant_holds(parts):
    if len(parts) != 5:
        return False
    number, wish, custom, text, other = parts
    return (
        isinstance(number, Number)
        and _is_fit(wish, custom)
        and written(number, wish, custom) == text
        and meant(number, wish, custom) == other
    )


def _shortest_holds(parts):
    if len(parts) != 5:
        return False
    number, step, count, places, paper = parts
    return (
        isinstance(number, Number)
        and is_step(step)
        and number.over(step).bottom == 1
        and shortest_holds(number, step, (count, places, paper))
    )


def _sum_holds(parts):
    if len(parts) != 4:
        return False
    numbers, step, counts, paper = parts
    return (
        isinstance(numbers, tuple)
        and len(numbers) > 0
        and all([isinstance(number, Number) for number in numbers])
        and is_step(step)
        and sum_holds(numbers, step, (counts, paper))
    )


def _parted_holds(parts):
    if len(parts) != 4:
        return False
    one, other, wish, number = parts
    if not _is_fit(wish, one) or not _is_fit(wish, other) or not is_by_steps(wish):
        return False
    return least_parted(one, other, wish) == number


def _is_fit(wish, custom):
    """Whether it is a Wish that fits a Custom."""
    return isinstance(wish, Wish) and isinstance(custom, Custom) and first_clash(wish, custom) is None


CHECKS = {
    "rounded": _rounded_holds,
    "meant": _meant_holds,
    "shortest": _shortest_holds,
    "sum": _sum_holds,
    "parted": _parted_holds,
}
