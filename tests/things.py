"""What several tests use: things of every kind, and exact numbers to hold the program's against."""

from fractions import Fraction

from figuretexts.numbers import Number


def things():
    """Things of every kind that "of anything" speaks of, made anew by each call."""
    deep = ()
    for _ in range(29):
        deep = (deep,)
    return [
        None, True, False, 0, 1, -1, 10 ** 59, "", " ", "\n", "~", "word", "0" * 4000, (), (1,), (1, 2, 3), (None,) * 3,
        [], [0, 0, 0], {}, {"a": [1]}, Number(1), Number(1, 2), (Number(0),) * 3, (Number(1), 2, "3"), ("", ""),
        ("-", ""), [("-", "")], (True, True, True), deep, (0,) * 20000, ((3, "k"),), [[3, "k"]], {1: 2, 2: 3, 3: 4},
        Number, len,
    ]


def number(fraction):
    """The Number that is as great as this Fraction (or int)."""
    exact = Fraction(fraction)
    return Number(exact.numerator, exact.denominator)


def fraction(told):
    """The Fraction that is as great as this Number."""
    return Fraction(told.top, told.bottom)


def fractions_between(least, most, bottoms):
    """All the fractions from least to most that have one of these bottoms, each once, rising."""
    found = set()
    for bottom in bottoms:
        for top in range(least * bottom, most * bottom + 1):
            found.add(Fraction(top, bottom))
    return sorted(found)
