"""The numbers in the texts of customs and wishes."""


def small_whole(word):
    """The whole number below 100 that is written just so, in figures without noughts ahead; None where none is."""
    if len(word) > 2 or not word.isascii() or not word.isdigit():
        return None
    if word.startswith("0") and word != "0":
        return None
    return int(word)
