"""Whole numbers and their figures 0 to 9, however many."""

PIECE_FIGURES = 60
PIECE = 10 ** 60


def digits_of(whole):
    """The figures of the whole number, not below 0, without noughts ahead."""
    # Python itself writes and reads no more than some thousand figures at once.
    pieces = []
    while whole >= PIECE:
        whole, rest = divmod(whole, PIECE)
        pieces.append(str(rest).zfill(PIECE_FIGURES))
    pieces.append(str(whole))
    return "".join(reversed(pieces))


def whole_of(digits):
    """The whole number of these figures, one or more, perhaps with noughts ahead."""
    first = len(digits) % PIECE_FIGURES
    whole = int(digits[:first]) if first > 0 else 0
    for at in range(first, len(digits), PIECE_FIGURES):
        whole = whole * PIECE + int(digits[at:at + PIECE_FIGURES])
    return whole
