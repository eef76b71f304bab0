"""Conditions told as texts: what they ask of the cards, or why they are refused."""

from turnedcards.rows import side_of
from turnedcards.texts import DEEPEST, refusal_of

CARDS_NAMED = {"up": 1, "even": 1, "like": 2}

# What binds more is joined first; a bracket joins nothing itself.
BINDS = {"(": 0, "or": 1, "and": 2, "not": 3}


class Condition:
    """What is read of a condition's text; refusal is 0 if it is not refused.

    steps has a pair for each claim (its word, and the cards that it names)
    and for each not, and, or (with no cards), each behind what it is said of.
    wanted tells what must come next: a "claim" (with any not and brackets
    ahead of it), the "card" of the last claim, or a "joint" (and, or, a
    bracket's end, the text's end). waiting has the brackets that are not
    ended, and each not, and, or that is not among the steps yet, as what it
    is said of may still go on.
    """

    def __init__(self, size):
        self.size = size
        self.refusal = 0
        self.steps = []
        self.wanted = "claim"
        self.word = ""
        self.cards = []
        self.waiting = []

    def take(self, piece):
        """Takes the next piece; tells whether it can stand here."""
        if self.wanted == "card":
            return self.take_card(piece)
        word = piece.word if piece.kind == "word" else piece.kind
        if self.wanted == "claim":
            return self.take_claim(word)
        return self.take_joint(word)

    def may_end(self):
        return self.wanted == "joint" and "(" not in self.waiting

    def take_claim(self, word):
        if word == "not" or word == "(":
            if self.depth() == DEEPEST:
                return False
            self.waiting.append(word)
            return True
        if word not in CARDS_NAMED:
            return False
        self.word = word
        self.cards = []
        self.wanted = "card"
        return True

    def depth(self):
        return len([word for word in self.waiting if word == "not" or word == "("])

    def take_card(self, piece):
        if piece.kind != "number" or piece.number < 1 or piece.number > self.size:
            return False
        self.cards.append(piece.number)
        if len(self.cards) == CARDS_NAMED[self.word]:
            self.steps.append((self.word, tuple(self.cards)))
            self.wanted = "joint"
        return True

    def take_joint(self, word):
        if word == ")":
            return self.end_bracket()
        if word != "and" and word != "or":
            return False
        self.settle(word)
        self.waiting.append(word)
        self.wanted = "claim"
        return True

    def end_bracket(self):
        if "(" not in self.waiting:
            return False
        self.settle("or")
        self.waiting.pop()
        return True

    def settle(self, word):
        """Makes steps of what waits last, as long as it binds as much as this word or more."""
        while len(self.waiting) > 0 and BINDS[self.waiting[-1]] >= BINDS[word]:
            self.steps.append((self.waiting.pop(), ()))


def read_condition(text, size):
    """The reading of a condition's text, for so many cards."""
    condition = Condition(size)
    condition.refusal = refusal_of(text, condition)
    condition.settle("or")
    return condition


def named_cards(steps):
    """The unlike cards that are named, rising."""
    named = {}
    for word, cards in steps:
        for card in cards:
            named[card] = True
    return sorted(list(named))


def lies_of(row):
    """For each card: 1 if its place is odd, else 0, and its side."""
    lies = {}
    for place, card in enumerate(row):
        lies[abs(card)] = (place % 2, side_of(card))
    return lies


def claim_holds(word, cards, lies):
    first = lies[cards[0]]
    if word == "up":
        return first[1] == 1
    if word == "even":
        return first[0] == 0
    return first[1] == lies[cards[1]][1]


def holds_of(steps, lies):
    """Whether the condition holds if the cards that it names lie so."""
    found = []
    for word, cards in steps:
        if word == "not":
            found.append(not found.pop())
        elif word in CARDS_NAMED:
            found.append(claim_holds(word, cards, lies))
        else:
            second = found.pop()
            first = found.pop()
            found.append(first and second if word == "and" else first or second)
    return found[0]
