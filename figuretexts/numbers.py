"""Exact numbers: made, compared, counted with, and read from their texts."""

from math import gcd
from figuretexts.errors import NoBottom, NoText

LONGEST_TEXT = 60


class Number:
    """An exact number: its top over its bottom, in lowest terms, the bottom above 0."""

    def __init__(self, top, bottom=1):
        if bottom == 0:
            raise NoBottom(top)
        common = gcd(top, bottom)
        if bottom < 0:
            common = -common
        self.top = top // common
        self.bottom = bottom // common

    def __eq__(self, other):
        return isinstance(other, Number) and self.top == other.top and self.bottom == other.bottom

    def __str__(self):
        if self.bottom == 1:
            return str(self.top)
        return f"{self.top}/{self.bottom}"

    def __repr__(self):
        return f"Number({self.top}, {self.bottom})"

    def more(self, other):
        """The sum of both."""
        return Number(self.top * other.bottom + other.top * self.bottom, self.bottom * other.bottom)

    def less(self, other):
        """This one without the other."""
        return Number(self.top * other.bottom - other.top * self.bottom, self.bottom * other.bottom)

    def times(self, other):
        """The product of both."""
        return Number(self.top * other.top, self.bottom * other.bottom)

    def over(self, other):
        """This one divided by the other; NoBottom of the own top where the other is nought."""
        if other.top == 0:
            raise NoBottom(self.top)
        return Number(self.top * other.bottom, self.bottom * other.top)

    def below(self, other):
        """Whether this one is less than the other."""
        return self.top * other.bottom < other.top * self.bottom

    def size(self):
        """This number without its sign."""
        return Number(abs(self.top), self.bottom)

    def floor(self):
        """The greatest whole number that isn't above this one."""
        return self.top // self.bottom


def read_number(text):
    """The Number of which str tells just this text; NoText(0) of anything else."""
    if not isinstance(text, str) or len(text) > LONGEST_TEXT:
        raise NoText(0)
    above, slash, behind = text.partition("/")
    top = _whole(above)
    bottom = _whole(behind) if slash else 1
    if top is None or bottom is None or bottom == 0:
        raise NoText(0)
    number = Number(top, bottom)
    # One number has many such texts (noughts ahead, not in lowest terms); str tells just one of them.
    if str(number) != text:
        raise NoText(0)
    return number


def _whole(text):
    """The whole number that these figures, perhaps behind a minus, write; None where they write none."""
    figures = text.removeprefix("-")
    if not figures.isascii() or not figures.isdigit():
        return None
    return int(text)


def places_of(number):
    """How few places behind the point write the number; None where none do."""
    twos, rest = _times_within(2, number.bottom)
    fives, rest = _times_within(5, rest)
    if rest != 1:
        return None
    return max(twos, fives)


def _times_within(factor, whole):
    """How often the factor divides the whole number, and what is left of that."""
    many = 0
    while whole % factor == 0:
        whole = whole // factor
        many += 1
    return many, whole


def power_of(number):
    """The whole e for which the size of the number, not nought, is from 10 ** e on, below 10 ** (e + 1)."""
    size = number.size()
    # A figure is worth about 100000 / 30103 bits: so guessed, the power is off by a step or two at most.
    power = (size.top.bit_length() - size.bottom.bit_length()) * 30103 // 100000
    while size.below(ten_to(power)):
        power -= 1
    while not size.below(ten_to(power + 1)):
        power += 1
    return power


def total_of(numbers):
    """The sum of these Numbers, one or more."""
    if len(numbers) == 1:
        return numbers[0]
    # By halves, as the bottoms of sums may be great: so most sums are of few numbers.
    half = len(numbers) // 2
    return total_of(numbers[:half]).more(total_of(numbers[half:]))


def ten_to(power):
    """10 ** power, as a Number; the power may be below 0."""
    great = 1
    for _ in range(abs(power)):
        great = great * 10
    if power < 0:
        return Number(1, great)
    return Number(great)
