"""What all texts have in common: how long and how deep they may be, and how they are refused."""

from turnedcards.refusals import FAULT, TEXT_TOO_LONG
from turnedcards.words import pieces_of

MOST_BYTES = 600
DEEPEST = 20


def refusal_of(text, reader):
    """Hands the text to the reader, piece by piece; 0, or the number by which the text is refused."""
    if len(text) > MOST_BYTES:
        return TEXT_TOO_LONG
    for piece in pieces_of(text):
        if not reader.take(piece):
            return FAULT - piece.place
    if not reader.may_end():
        return FAULT - len(text)
    return 0
