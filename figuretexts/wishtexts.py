"""The texts of wishes: words parted by one blank."""

from figuretexts.errors import NoText
from figuretexts.numbers import read_number
from figuretexts.options import WAYS
from figuretexts.wishes import ALL_SIGNS, MOST_FIGURES, MOST_PLACES, Wish, is_step_within
from figuretexts.words import small_whole


def show_wish(wish):
    """The words of the wish, without its unit."""
    words = ["places", str(wish.places[0]), str(wish.places[1])]
    if wish.figures is not None:
        words.extend(["figures", str(wish.figures)])
    if wish.step is not None:
        words.extend(["step", str(wish.step)])
    words.append(_way_word(wish.way))
    words.append(wish.signs)
    words.append("grouped" if wish.grouped else "plain")
    if wish.scaled:
        words.append("scaled")
    return " ".join(words)


def read_wish(text):
    """The Wish of which just this text is written; NoText of the number of the first wrong word of anything else."""
    if not isinstance(text, str):
        raise NoText(0)
    words = WordReader(text)
    words.take_one_of(("places",))
    fewest = words.take_whole(0, MOST_PLACES)
    most = words.take_whole(fewest, MOST_PLACES)
    figures, step, way = _read_rounding(words, most)
    signs = words.take_one_of(ALL_SIGNS)
    grouped = words.take_one_of(("grouped", "plain")) == "grouped"
    scaled = False
    # A wish with a step is never scaled: there such a word is one too many.
    if step is None and not words.is_over():
        scaled = words.take_one_of(("scaled",)) == "scaled"
    if not words.is_over():
        raise NoText(words.at)
    return Wish(
        places=(fewest, most), figures=figures, step=step, way=way, signs=signs, grouped=grouped, scaled=scaled,
    )


def _read_rounding(words, most):
    """(figures, step, way), of the words from there on; only one of figures and step is told."""
    way_words = tuple([_way_word(way) for way in WAYS])
    figures = None
    step = None
    word = words.take_one_of(("figures", "step") + way_words)
    if word == "figures":
        figures = words.take_whole(1, MOST_FIGURES)
        word = words.take_one_of(way_words)
    elif word == "step":
        step = words.take_step(most)
        word = words.take_one_of(way_words)
    return figures, step, word.replace("-", " ")


def _way_word(way):
    return way.replace(" ", "-")


class WordReader:
    """Takes the words of a text one behind the other; NoText tells the number of the first that isn't as asked."""

    def __init__(self, text):
        self.parts = text.split(" ")
        self.at = 0

    def is_over(self):
        """Whether no word is left."""
        return self.at == len(self.parts)

    def next_word(self):
        """The word that is taken next."""
        if self.is_over():
            raise NoText(self.at)
        return self.parts[self.at]

    def take_one_of(self, choices):
        """The next word, one of these."""
        word = self.next_word()
        if word not in choices:
            raise NoText(self.at)
        self.at += 1
        return word

    def take_whole(self, least, most):
        """The whole number, from least to most, that the next word writes."""
        whole = small_whole(self.next_word())
        if whole is None or not least <= whole <= most:
            raise NoText(self.at)
        self.at += 1
        return whole

    def take_step(self, most):
        """The step, of so many places at most, that the next word writes."""
        try:
            step = read_number(self.next_word())
        except NoText:
            raise NoText(self.at) from None
        if not is_step_within(step, most):
            raise NoText(self.at)
        self.at += 1
        return step
