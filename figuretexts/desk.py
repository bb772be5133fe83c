"""A desk: it is told lines, keeps customs and wishes by their names, and answers."""

from figuretexts.customs import Custom
from figuretexts.customtexts import read_field
from figuretexts.errors import NoCustom, NoName, NoRead, NoText
from figuretexts.kindly import read_kindly
from figuretexts.numbers import read_number
from figuretexts.parting import is_by_steps, least_parted
from figuretexts.reading import read_strictly
from figuretexts.wishtexts import read_wish
from figuretexts.writing import written

LETTERS = "abcdefghijklmnopqrstuvwxyz"
LONGEST_NAME = 8
OK = "ok"
DONE = "done"


class Desk:
    """Customs and wishes by their names, and all that was told so far."""

    def __init__(self):
        self.customs = {}
        self.wishes = {}
        # What was told of each line, by the line's number in figures; and each line's note.
        self.answers = {}
        self.ends = []

    def say(self, text):
        """What is told of this line; each line, refused or not, is numbered and has its note."""
        try:
            answer = _answer(self, text)
        except NoText:
            self._keep("NoText", "NoText")
            raise
        except NoName:
            self._keep("NoName", "NoName")
            raise
        except NoCustom:
            self._keep("NoCustom", "NoCustom")
            raise
        except NoRead:
            self._keep("NoRead", "NoRead")
            raise
        self._keep(answer, DONE)
        return answer

    def notes(self):
        """Of each line `done`, or the name of the class that it was refused with."""
        return tuple(self.ends)

    def _keep(self, answer, end):
        """Keep what the next line is told by, and its note."""
        self.answers[str(len(self.ends))] = answer
        self.ends.append(end)


def _answer(desk, text):
    """What is told of this line; what is refused changes nothing."""
    if not isinstance(text, str) or "\n" in text:
        raise NoText(0)
    word = text.partition(" ")[0]
    if word not in ANSWERS:
        raise NoText(0)
    answer = ANSWERS[word]
    return answer(desk, text)


def _put_custom(desk, text):
    _, name, line = _cut(text, 3)
    _check_names((name,))
    field_name, field = read_field(line)
    custom = desk.customs.get(name, Custom())
    change = {field_name: field}
    desk.customs[name] = custom.but(**change)
    return OK


def _put_wish(desk, text):
    _, name, words = _cut(text, 3)
    _check_names((name,))
    try:
        wish = read_wish(words)
    except NoText:
        # At which of the wish's words it goes wrong isn't told here.
        raise NoText(0) from None
    desk.wishes[name] = wish
    return OK


def _drop(desk, text):
    _, name = _words(text, 2)
    _check_names((name,))
    if name not in desk.customs and name not in desk.wishes:
        raise NoName(name)
    if name in desk.customs:
        del desk.customs[name]
    if name in desk.wishes:
        del desk.wishes[name]
    return OK


def _write(desk, text):
    _, number_word, wish_name, custom_name = _words(text, 4)
    number = read_number(number_word)
    _check_names((wish_name, custom_name))
    wish = _named(wish_name, desk.wishes)
    custom = _named(custom_name, desk.customs)
    return written(number, wish, custom)


def _read(desk, text):
    _, wish_name, custom_name, shown = _cut(text, 4)
    _check_names((wish_name, custom_name))
    wish = _named(wish_name, desk.wishes)
    custom = _named(custom_name, desk.customs)
    return str(read_strictly(shown, wish, custom))


def _read_kindly(desk, text):
    _, name, shown = _cut(text, 3)
    _check_names((name,))
    number, _ = read_kindly(shown, _named(name, desk.customs))
    return str(number)


def _part(desk, text):
    _, wish_name, one_name, other_name = _words(text, 4)
    _check_names((wish_name, one_name, other_name))
    wish = _named(wish_name, desk.wishes)
    one = _named(one_name, desk.customs)
    other = _named(other_name, desk.customs)
    if not is_by_steps(wish):
        raise NoText(0)
    number = least_parted(one, other, wish)
    if number is None:
        return "alike"
    return str(number)


def _tell(desk, text):
    _, line = _words(text, 2)
    # What is told now isn't kept yet: only lines ahead are there.
    if line not in desk.answers:
        raise NoText(0)
    return desk.answers[line]


def _names(desk, text):
    _words(text, 1)
    return " ".join(sorted(set(list(desk.customs) + list(desk.wishes)))) or "none"


def _cut(text, many):
    """So many words of the line, the last of which is all behind the blank; NoText(0) where it has fewer."""
    words = text.split(" ", many - 1)
    if len(words) != many:
        raise NoText(0)
    return words


def _words(text, many):
    """The words of the line, just so many; NoText(0) where it has fewer or more."""
    words = text.split(" ")
    if len(words) != many:
        raise NoText(0)
    return words


def _check_names(names):
    """NoText(0) where one of these is no name."""
    if not all([_is_name(name) for name in names]):
        raise NoText(0)


def _is_name(word):
    return 1 <= len(word) <= LONGEST_NAME and all([letter in LETTERS for letter in word])


def _named(name, kept):
    """What is kept by this name; NoName where nothing is."""
    if name not in kept:
        raise NoName(name)
    return kept[name]


ANSWERS = {
    "custom": _put_custom,
    "wish": _put_wish,
    "drop": _drop,
    "write": _write,
    "read": _read,
    "kindly": _read_kindly,
    "parted": _part,
    "told": _tell,
    "names": _names,
}
