"""Calls on one deck, and what they answer."""

from turnedcards.handlings import read_handling
from turnedcards.moves import moved, order_of
from turnedcards.reach import can_come, count_of_rows, rank_of
from turnedcards.refusals import NO_DECK, NO_ROW, NOT_COME_TO, WRONG_LIST
from turnedcards.rows import is_deck, is_row
from turnedcards.ways import is_way, walked, way_to
from turnedcards.words import written


class Deck:
    """The present row; it is empty as long as there is no deck."""

    def __init__(self):
        self.row = []


def in_decimal(number):
    return [ord(digit) for digit in str(number)]


def load(deck, numbers):
    if not is_deck(numbers):
        return [NO_ROW]
    deck.row = numbers
    return [0, len(deck.row)]


def tell_row(deck, numbers):
    return [0] + deck.row


def act(deck, text):
    reading = read_handling(text, len(deck.row))
    if reading.refusal < 0:
        return [reading.refusal]
    deck.row = moved(deck.row, reading.move)
    return [0] + deck.row


def shape(deck, text):
    reading = read_handling(text, len(deck.row))
    if reading.refusal < 0:
        return [reading.refusal]
    return [0] + written(reading.pieces)


def hand(deck, text):
    reading = read_handling(text, len(deck.row))
    if reading.refusal < 0:
        return [reading.refusal]
    answer = [0]
    for pair in reading.move:
        answer.extend(pair)
    return answer


def order(deck, text):
    reading = read_handling(text, len(deck.row))
    if reading.refusal < 0:
        return [reading.refusal]
    return [0, order_of(reading.move)]


def tame(deck, text):
    reading = read_handling(text, len(deck.row))
    if reading.refusal < 0:
        return [reading.refusal]
    # What it does hangs on places alone, so one row tells of every row.
    return [0, 1 if can_come(deck.row, moved(deck.row, reading.move)) else 0]


def can(deck, numbers):
    if not is_row(numbers, len(deck.row)):
        return [NO_ROW]
    return [0, 1 if can_come(deck.row, numbers) else 0]


def way(deck, numbers):
    if not is_row(numbers, len(deck.row)):
        return [NO_ROW]
    if not can_come(deck.row, numbers):
        return [NOT_COME_TO]
    return [0] + way_to(deck.row, numbers)


def walk(deck, numbers):
    if not is_way(numbers, len(deck.row)):
        return [WRONG_LIST]
    deck.row = walked(deck.row, numbers)
    return [0] + deck.row


def count(deck, numbers):
    return [0] + in_decimal(count_of_rows(len(deck.row)))


def rank(deck, numbers):
    if not is_row(numbers, len(deck.row)):
        return [NO_ROW]
    if not can_come(deck.row, numbers):
        return [NOT_COME_TO]
    return [0] + in_decimal(rank_of(numbers))


LOAD = 0
CALLS = {
    0: load,
    1: tell_row,
    2: act,
    3: shape,
    4: hand,
    5: order,
    6: tame,
    7: can,
    8: way,
    9: walk,
    10: count,
    11: rank,
}
CALLS_WITHOUT_LIST = (1, 10)


def answer_of(deck, call, numbers):
    if call != LOAD and len(deck.row) == 0:
        return [NO_DECK]
    handler = CALLS[call]
    return handler(deck, numbers)


def answers(calls):
    """Each call's answer, one behind another, with its length ahead of it."""
    deck = Deck()
    given = []
    at = 0
    while at < len(calls):
        call = calls[at]
        at = at + 1
        numbers = []
        if call not in CALLS_WITHOUT_LIST:
            begin = at + 1
            at = begin + calls[at]
            numbers = calls[begin:at]
        answer = answer_of(deck, call, numbers)
        given.append(len(answer))
        given.extend(answer)
    return given
