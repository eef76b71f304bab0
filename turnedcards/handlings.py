"""Handlings told as texts: what they do, or why they are refused."""

from turnedcards.moves import cut, deal, every, followed, nothing, repeated, turn, undone
from turnedcards.refusals import FAULT, TEXT_TOO_LONG
from turnedcards.words import pieces_of

MOST_BYTES = 600
MOST_TIMES = 1000000000000
DEEPEST = 20

# Stands in the place of a number of times.
BACK = -1


class Reading:
    """What is read of one handling's text; refusal is 0 if it is not refused.

    wanted tells what must come next: a "handling" (or a bracket's end, or
    the text's end), the "amount" of the last word, or the "bracket" of the
    last back or number of times. outer has, for each bracket that is not
    ended yet, the move ahead of it and its number of times.
    """

    def __init__(self, size):
        self.size = size
        self.refusal = 0
        self.pieces = []
        self.move = nothing(size)
        self.wanted = "handling"
        self.word = ""
        self.times = 0
        self.outer = []

    def take_text(self, text):
        pieces = pieces_of(text)
        self.pieces = pieces
        for piece in pieces:
            if not self.take(piece):
                self.refusal = FAULT - piece.place
                return
        if self.wanted != "handling" or len(self.outer) > 0:
            self.refusal = FAULT - len(text)

    def take(self, piece):
        """Takes the next piece; tells whether it can stand here."""
        if self.wanted == "amount":
            return self.take_amount(piece)
        if self.wanted == "bracket":
            return self.take_bracket(piece)
        if piece.kind == "number":
            return self.take_times(piece.number)
        if piece.kind == "word":
            return self.take_word(piece.word)
        return piece.kind == ")" and self.end_bracket()

    def take_amount(self, piece):
        if piece.kind != "number" or piece.number > self.size:
            return False
        if self.word == "cut":
            self.add_move(cut(self.size, piece.number))
        elif self.word == "turn":
            self.add_move(turn(self.size, piece.number))
        else:
            self.add_move(deal(self.size, piece.number))
        self.wanted = "handling"
        return True

    def take_bracket(self, piece):
        if piece.kind != "(" or len(self.outer) == DEEPEST:
            return False
        self.outer.append((self.move, self.times))
        self.move = nothing(self.size)
        self.wanted = "handling"
        return True

    def take_times(self, number):
        if number > MOST_TIMES:
            return False
        self.times = number
        self.wanted = "bracket"
        return True

    def take_word(self, word):
        if word == "every":
            self.add_move(every(self.size))
        elif word == "back":
            self.times = BACK
            self.wanted = "bracket"
        elif word in ("cut", "turn", "deal"):
            self.word = word
            self.wanted = "amount"
        else:
            return False
        return True

    def end_bracket(self):
        if len(self.outer) == 0:
            return False
        ahead = self.outer.pop()
        within = self.move
        self.move = ahead[0]
        if ahead[1] == BACK:
            self.add_move(undone(within))
        else:
            self.add_move(repeated(within, ahead[1]))
        return True

    def add_move(self, move):
        self.move = followed(self.move, move)


def read_handling(text, size):
    """The reading of a handling's text, for so many cards."""
    reading = Reading(size)
    if len(text) > MOST_BYTES:
        reading.refusal = TEXT_TOO_LONG
    else:
        reading.take_text(text)
    return reading
