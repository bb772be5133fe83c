"""What the tests hold the program's answers against: the rules of writing, made apart from it, over Fractions."""

from fractions import Fraction

from figuretexts.customs import Custom
from figuretexts.numbers import Number
from figuretexts.options import WAYS
from figuretexts.wishes import Wish


def rounded_by(exact, step, way):
    """The multiple of the step to which it is rounded."""
    count = exact / step
    low = count.__floor__()
    if count == low:
        return exact
    off = count - low
    from_nought = low if exact < 0 else low + 1
    to_nought = low + 1 if exact < 0 else low
    even = low if low % 2 == 0 else low + 1
    taken = {
        "up": from_nought, "down": to_nought, "high": low + 1, "low": low, "half up": from_nought,
        "half down": to_nought, "half even": even, "half odd": 2 * low + 1 - even,
    }[way]
    if way.startswith("half") and off != Fraction(1, 2):
        taken = low if off < Fraction(1, 2) else low + 1
    return taken * step


def power_by(exact):
    """The power of ten of the first figure of it, that isn't nought."""
    power = len(str(abs(exact.numerator))) - len(str(exact.denominator))
    return power if abs(exact) >= Fraction(10) ** power else power - 1


def rounded_as_wished(exact, wish):
    if wish.figures is not None:
        return exact and rounded_by(exact, Fraction(10) ** (power_by(exact) - wish.figures + 1), wish.way)
    if wish.step is not None:
        return rounded_by(exact, Fraction(wish.step.top, wish.step.bottom), wish.way)
    return rounded_by(exact, Fraction(1, 10 ** wish.places[1]), wish.way)


def stands_by(exact, wish, custom):
    """(what stands there, power)."""
    powers = [0] + [power for power, _ in custom.words if wish.scaled]
    at = max(number for number, power in enumerate(powers) if power == 0 or 10 ** power <= abs(exact))
    told = rounded_as_wished(exact / Fraction(10) ** powers[at], wish)
    if at + 1 < len(powers) and abs(told) >= 10 ** (powers[at + 1] - powers[at]):
        at += 1
        told = rounded_as_wished(exact / Fraction(10) ** powers[at], wish)
    return told, powers[at]


def meant_by(exact, wish, custom):
    told, power = stands_by(exact, wish, custom)
    return told * 10 ** power


def grouped_by(ahead, custom):
    """These figures ahead of the point, parted into groups."""
    if not custom.group or len(ahead) < custom.sizes[0] + custom.least:
        return ahead
    parts = []
    sizes = list(custom.sizes)
    while ahead:
        parts.insert(0, ahead[-sizes[0]:])
        ahead = ahead[:-sizes[0]]
        sizes = sizes[1:] or sizes
    return custom.group.join(parts)


def body_by(told, power, wish, custom):
    """The figures of this, that stands there, and the word of the power."""
    size = abs(told)
    if wish.figures is None:
        places = wish.places[0]
        while (size * 10 ** places).denominator != 1:
            places += 1
    else:
        ahead = len(str(size.__floor__())) if size >= 1 else (power_by(size) + 1 if size else 1)
        places = max(wish.figures - ahead, 0)
    whole = size * 10 ** places
    assert whole.denominator == 1
    figures = "".join(custom.figures[int(figure)] for figure in str(whole.numerator).zfill(places + 1))
    ahead, behind = figures[:len(figures) - places], figures[len(figures) - places:]
    shown = grouped_by(ahead, custom) if wish.grouped else ahead
    if behind:
        shown += custom.point + behind
    return shown + {0: "", **dict(custom.words)}[power]


def signs_by(told, wish, custom):
    if told < 0:
        return custom.minus
    return custom.plus if told > 0 and wish.signs == "all" else ("", "")


def written_by(exact, wish, custom):
    told, power = stands_by(exact, wish, custom)
    ahead, behind = signs_by(told, wish, custom)
    return ahead + wish.unit[0] + body_by(told, power, wish, custom) + wish.unit[1] + behind


def numbers_around():
    """Fractions of many sizes, above and below nought: at, just beside and halfway between what is rounded to."""
    found = {Fraction(0)}
    for power in range(-4, 10):
        for many in (1, 2, 5, 15, 95, 99, 125, 995, 999, 9995, 99995, 999949, 999950, 999951, 12345678):
            found.add(Fraction(many) * Fraction(10) ** power)
        for bottom in (3, 7, 8, 400):
            found.add(Fraction(10) ** power / bottom)
        for off in (Fraction(1, 10 ** 6), Fraction(1, 2), Fraction(1, 20), Fraction(1, 200)):
            found.update((10 ** max(power, 0) - off, 10 ** max(power, 0) + off))
    return sorted(found | {-exact for exact in found})


WORDS = ((3, "k"), (6, "m"), (9, "mk"))
CUSTOMS = (
    Custom(), Custom(words=WORDS), Custom(point=",", group=" ", minus=("(", ")"), plus=("", "+"), words=WORDS),
    Custom(sizes=(3, 2), minus=("", "-"), plus=("p", "p"), words=((2, "h"), (3, "hh"), (5, "hhh"))),
    Custom(sizes=(1, 2, 3, 4), least=2, figures="ABCDEFGHIJ", point="1", group="0", words=((1, "2"), (30, "22"))),
    Custom(group="", least=4, figures="9876543210", words=((6, "m"),)), Custom(sizes=(2,), least=4, group="'"),
    Custom(sizes=(4, 1, 2), least=3, minus=("--", "-"), plus=("++", "+"), words=((4, "w"), (8, "y"), (12, "wy"))),
)
WISHES = (
    Wish(), Wish(places=(2, 2)), Wish(places=(0, 0)), Wish(places=(1, 4), signs="all"), Wish(places=(3, 12),
    way="down"),
    Wish(grouped=False, signs="all", unit=("$ ", " !")), Wish(unit=("$", "")), Wish(unit=("", " u u")),
    Wish(figures=1), Wish(figures=2, way="up"), Wish(figures=3, signs="all"), Wish(figures=12, places=(5, 6)),
    Wish(step=Number(1, 4)), Wish(step=Number(5), places=(2, 2)), Wish(step=Number(3, 2), way="half odd", signs="all"),
    Wish(step=Number(1000), way="high"), Wish(step=Number(1, 10 ** 12), places=(0, 12), way="low"),
    Wish(scaled=True), Wish(scaled=True, places=(1, 1)), Wish(scaled=True, places=(0, 0), way="up", signs="all"),
    Wish(scaled=True, figures=1, way="half down"), Wish(scaled=True, figures=3, unit=("", "!")),
    Wish(scaled=True, figures=2, way="high", grouped=False), Wish(scaled=True, places=(0, 3), way="low"),
) + tuple(Wish(places=(0, 1), way=way) for way in WAYS) + tuple(Wish(figures=2, scaled=True, way=way) for way in WAYS)


def fits_by(wish, custom):
    fields = [custom.point, custom.group, custom.figures, custom.between, custom.about, "\n"]
    fields += [part for pair in (custom.minus, custom.plus) for part in pair] + [word for _, word in custom.words]
    return not set("".join(wish.unit)) & set("".join(fields))


PAIRS = [(wish, custom) for wish in WISHES for custom in CUSTOMS if fits_by(wish, custom)]
