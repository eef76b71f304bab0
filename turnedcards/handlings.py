"""Handlings told as texts: what they do, or why they are refused."""

from turnedcards.moves import cut, deal, every, followed, nothing, repeated, turn, undone
from turnedcards.texts import DEEPEST, refusal_of

MOST_TIMES = 1000000000000

# Stands in the place of a number of times.
BACK = -1


class Reading:
    """What is read of a handling's text, or of several handlings' one text.

    refusal is 0 if it is not refused. moves has what the handlings ahead of
    the last one do, move what the last one does. wanted tells what must come
    next: a "handling" (or a bracket's end, or the text's end), the "amount"
    of the last word, or the "bracket" of the last back or number of times.
    outer has, for each bracket that is not ended yet, the move ahead of it
    and its number of times.
    """

    def __init__(self, size, several):
        self.size = size
        self.several = several
        self.refusal = 0
        self.moves = []
        self.move = nothing(size)
        self.wanted = "handling"
        self.word = ""
        self.times = 0
        self.outer = []

    def take(self, piece):
        """Takes the next piece; tells whether it can stand here."""
        if self.wanted == "amount":
            return self.take_amount(piece)
        if self.wanted == "bracket":
            return self.take_bracket(piece)
        if piece.kind == "number":
            return self.take_times(piece.number)
        if piece.kind == "word":
            return self.take_word(piece.word)
        if piece.kind == ";":
            return self.end_handling()
        return piece.kind == ")" and self.end_bracket()

    def may_end(self):
        return self.wanted == "handling" and len(self.outer) == 0

    def take_amount(self, piece):
        if piece.kind != "number" or piece.number > self.size:
            return False
        if self.word == "cut":
            self.add_move(cut(self.size, piece.number))
        elif self.word == "turn":
            self.add_move(turn(self.size, piece.number))
        else:
            self.add_move(deal(self.size, piece.number))
        self.wanted = "handling"
        return True

    def take_bracket(self, piece):
        if piece.kind != "(" or len(self.outer) == DEEPEST:
            return False
        self.outer.append((self.move, self.times))
        self.move = nothing(self.size)
        self.wanted = "handling"
        return True

    def take_times(self, number):
        if number > MOST_TIMES:
            return False
        self.times = number
        self.wanted = "bracket"
        return True

    def take_word(self, word):
        if word == "every":
            self.add_move(every(self.size))
        elif word == "back":
            self.times = BACK
            self.wanted = "bracket"
        elif word in ("cut", "turn", "deal"):
            self.word = word
            self.wanted = "amount"
        else:
            return False
        return True

    def end_bracket(self):
        if len(self.outer) == 0:
            return False
        ahead = self.outer.pop()
        within = self.move
        self.move = ahead[0]
        if ahead[1] == BACK:
            self.add_move(undone(within))
        else:
            self.add_move(repeated(within, ahead[1]))
        return True

    def end_handling(self):
        if not self.several or len(self.outer) > 0:
            return False
        self.moves.append(self.move)
        self.move = nothing(self.size)
        return True

    def add_move(self, move):
        self.move = followed(self.move, move)


def read_handling(text, size):
    """The reading of one handling's text, for so many cards."""
    reading = Reading(size, False)
    reading.refusal = refusal_of(text, reading)
    return reading


def read_handlings(text, size):
    """The reading of a text of handlings with ; between each two; moves has what they all do."""
    reading = Reading(size, True)
    reading.refusal = refusal_of(text, reading)
    reading.moves.append(reading.move)
    return reading
