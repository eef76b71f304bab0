"""Texts taken apart into words, numbers and signs."""

LETTERS = "abcdefghijklmnopqrstuvwxyz"
FIRST_LETTER = 97
FIRST_DIGIT = 48
BLANK = 32
LINE_END = 10
SIGNS = {40: "(", 41: ")", 59: ";"}
MOST_DIGITS = 13


class Piece:
    """A word, a number, a sign or a wrong byte, with its place in the text.

    kind is "word", "number", "wrong", or the sign itself.
    """

    def __init__(self, kind, place, spelt):
        self.kind = kind
        self.place = place
        self.spelt = spelt
        self.word = ""
        self.number = 0


def kind_of(byte):
    if byte >= FIRST_LETTER and byte < FIRST_LETTER + 26:
        return "word"
    if byte >= FIRST_DIGIT and byte < FIRST_DIGIT + 10:
        return "number"
    if byte == BLANK or byte == LINE_END:
        return "blank"
    return SIGNS.get(byte, "wrong")


def end_of_piece(text, place):
    kind = kind_of(text[place])
    end = place + 1
    if kind == "word" or kind == "number":
        while end < len(text) and kind_of(text[end]) == kind:
            end = end + 1
    return end


def word_of(spelt):
    return "".join([LETTERS[byte - FIRST_LETTER] for byte in spelt])


def number_of(spelt):
    number = 0
    for byte in spelt:
        number = number * 10 + byte - FIRST_DIGIT
    return number


def is_decimal(spelt):
    """Whether these are digits alone, with no 0 ahead of others."""
    if len(spelt) == 0 or not all([kind_of(byte) == "number" for byte in spelt]):
        return False
    return len(spelt) == 1 or spelt[0] != FIRST_DIGIT


def is_number(spelt):
    return len(spelt) <= MOST_DIGITS and is_decimal(spelt)


def piece_at(text, place, end):
    spelt = text[place:end]
    piece = Piece(kind_of(text[place]), place, spelt)
    if piece.kind == "word":
        piece.word = word_of(spelt)
    if piece.kind == "number":
        if is_number(spelt):
            piece.number = number_of(spelt)
        else:
            piece.kind = "wrong"
    return piece


def pieces_of(text):
    """All pieces of the text, in order; blanks and line ends are left out."""
    pieces = []
    place = 0
    while place < len(text):
        end = end_of_piece(text, place)
        if kind_of(text[place]) != "blank":
            pieces.append(piece_at(text, place, end))
        place = end
    return pieces


def written(pieces):
    """The pieces' bytes, with single blanks between the pieces."""
    spelt = []
    for piece in pieces:
        if len(spelt) > 0:
            spelt.append(BLANK)
        spelt.extend(piece.spelt)
    return spelt
