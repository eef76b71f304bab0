"""Calls on one deck, and what they answer."""

from turnedcards.conditions import holds_of, lies_of, named_cards, read_condition
from turnedcards.grids import alike_when_folded, folded, is_grid, laid
from turnedcards.groups import Group, brought_to
from turnedcards.handlings import read_handling, read_handlings
from turnedcards.moves import move_between, moved, order_of
from turnedcards.reach import can_come, count_of_rows, rank_of, row_of_rank
from turnedcards.refusals import (
    MORE_THAN_ONE_PILE, NO_CARD, NO_DECK, NO_GRID, NO_ROW, NO_SUCH_NUMBER, NOT_COME_TO, NOTHING_TOLD, TOO_MANY,
    WRONG_LIST,
)
from turnedcards.rows import is_deck, is_row, sums_of
from turnedcards.surety import first_failing_row
from turnedcards.ways import fewest_cuts, is_way, least_way, walked, way_to
from turnedcards.words import is_decimal, number_of, pieces_of, written

MOST_CARDS_FOR_LEAST = 6
MOST_CARDS_NAMED = 4
MOST_CARDS_FOR_GROUP = 8
MOST_TOLD = 4


class Deck:
    """The present row, which is empty as long as there is no deck, and what the told handlings do.

    cuts_by_size has what least has found out, for so many cards; it hangs
    on nothing else.
    """

    def __init__(self):
        self.row = []
        self.told = []
        self.cuts_by_size = {}


def in_decimal(number):
    return [ord(digit) for digit in str(number)]


def load(deck, numbers):
    if not is_deck(numbers):
        return [NO_ROW]
    deck.row = numbers
    deck.told = []
    return [0, len(deck.row)]


def tell_row(deck, numbers):
    return [0] + deck.row


def act(deck, text):
    reading = read_handling(text, len(deck.row))
    if reading.refusal < 0:
        return [reading.refusal]
    deck.row = moved(deck.row, reading.move)
    return [0] + deck.row


def shape(deck, text):
    reading = read_handling(text, len(deck.row))
    if reading.refusal < 0:
        return [reading.refusal]
    return [0] + written(pieces_of(text))


def hand(deck, text):
    reading = read_handling(text, len(deck.row))
    if reading.refusal < 0:
        return [reading.refusal]
    answer = [0]
    for pair in reading.move:
        answer.extend(pair)
    return answer


def order(deck, text):
    reading = read_handling(text, len(deck.row))
    if reading.refusal < 0:
        return [reading.refusal]
    return [0, order_of(reading.move)]


def tame(deck, text):
    reading = read_handling(text, len(deck.row))
    if reading.refusal < 0:
        return [reading.refusal]
    # What it does hangs on places alone, so one row tells of every row.
    return [0, 1 if can_come(deck.row, moved(deck.row, reading.move)) else 0]


def can(deck, numbers):
    if not is_row(numbers, len(deck.row)):
        return [NO_ROW]
    return [0, 1 if can_come(deck.row, numbers) else 0]


def way(deck, numbers):
    if not is_row(numbers, len(deck.row)):
        return [NO_ROW]
    if not can_come(deck.row, numbers):
        return [NOT_COME_TO]
    return [0] + way_to(deck.row, numbers)


def walk(deck, numbers):
    if not is_way(numbers, len(deck.row)):
        return [WRONG_LIST]
    deck.row = walked(deck.row, numbers)
    return [0] + deck.row


def count(deck, numbers):
    return [0] + in_decimal(count_of_rows(len(deck.row)))


def rank(deck, numbers):
    if not is_row(numbers, len(deck.row)):
        return [NO_ROW]
    if not can_come(deck.row, numbers):
        return [NOT_COME_TO]
    return [0] + in_decimal(rank_of(numbers))


def nth(deck, text):
    if not is_decimal(text) or number_of(text) >= count_of_rows(len(deck.row)):
        return [NO_SUCH_NUMBER]
    return [0] + row_of_rank(deck.row, number_of(text))


def least(deck, numbers):
    size = len(deck.row)
    if not is_row(numbers, size):
        return [NO_ROW]
    if size > MOST_CARDS_FOR_LEAST:
        return [TOO_MANY]
    if not can_come(deck.row, numbers):
        return [NOT_COME_TO]
    if size not in deck.cuts_by_size:
        deck.cuts_by_size[size] = fewest_cuts(size)
    found = least_way(move_between(deck.row, numbers), deck.cuts_by_size[size])
    return [0, len(found) - 1] + list(found)


def fate(deck, numbers):
    return [0] + [at + 1 for at, number in enumerate(sums_of(deck.row)) if number % 2 == 0]


def holds(deck, text):
    condition = read_condition(text, len(deck.row))
    if condition.refusal < 0:
        return [condition.refusal]
    return [0, 1 if holds_of(condition.steps, lies_of(deck.row)) else 0]


def sure(deck, text):
    condition = read_condition(text, len(deck.row))
    if condition.refusal < 0:
        return [condition.refusal]
    if len(named_cards(condition.steps)) > MOST_CARDS_NAMED:
        return [TOO_MANY]
    failing = first_failing_row(deck.row, condition.steps)
    if len(failing) == 0:
        return [0, 1]
    return [0, 0] + failing


def fold(deck, numbers):
    if not is_grid(numbers[0], numbers[1], len(deck.row)):
        return [NO_GRID]
    grid = folded(laid(deck.row, numbers[0], numbers[1]), numbers[2:])
    if len(grid) == 0:
        return [WRONG_LIST]
    if len(grid) > 1 or len(grid[0]) > 1:
        return [MORE_THAN_ONE_PILE]
    deck.row = grid[0][0]
    return [0] + deck.row


def alike(deck, numbers):
    if not is_grid(numbers[0], numbers[1], len(deck.row)):
        return [NO_GRID]
    return [0] + alike_when_folded(deck.row, numbers[1])


def group(deck, text):
    reading = read_handlings(text, len(deck.row))
    if reading.refusal < 0:
        return [reading.refusal]
    if len(deck.row) > MOST_CARDS_FOR_GROUP or len(reading.moves) > MOST_TOLD:
        return [TOO_MANY]
    deck.told = reading.moves
    return [0, len(deck.told)]


def size_of_group(deck, numbers):
    if len(deck.told) == 0:
        return [NOTHING_TOLD]
    return [0, Group(deck.told).size_of_all()]


def member(deck, numbers):
    if len(deck.told) == 0:
        return [NOTHING_TOLD]
    if not is_row(numbers, len(deck.row)):
        return [NO_ROW]
    return [0, 1 if Group(deck.told).has(move_between(deck.row, numbers)) else 0]


def orbit(deck, numbers):
    if len(deck.told) == 0:
        return [NOTHING_TOLD]
    if numbers[0] < 1 or numbers[0] > len(deck.row):
        return [NO_CARD]
    place = [abs(card) for card in deck.row].index(numbers[0])
    answer = [0]
    for pair in brought_to(deck.told, place):
        answer.extend(pair)
    return answer


LOAD = 0
CALLS = {
    0: load,
    1: tell_row,
    2: act,
    3: shape,
    4: hand,
    5: order,
    6: tame,
    7: can,
    8: way,
    9: walk,
    10: count,
    11: rank,
    12: nth,
    13: least,
    14: fate,
    15: holds,
    16: sure,
    17: fold,
    18: alike,
    19: group,
    20: size_of_group,
    21: member,
    22: orbit,
}

# How many whole numbers a call has by themselves, ahead of its list if it has one.
OWN_NUMBERS = {17: 2, 18: 2, 22: 1}
CALLS_WITHOUT_LIST = (1, 10, 14, 18, 20, 22)


def answer_of(deck, call, numbers):
    """The answer of one call; numbers are its whole numbers and those of its list, one behind another."""
    if call != LOAD and len(deck.row) == 0:
        return [NO_DECK]
    handler = CALLS[call]
    return handler(deck, numbers)


def answers(calls):
    """Each call's answer, one behind another, with its length ahead of it."""
    deck = Deck()
    given = []
    at = 0
    while at < len(calls):
        call = calls[at]
        begin = at + 1
        end = begin + OWN_NUMBERS.get(call, 0)
        numbers = calls[begin:end]
        if call not in CALLS_WITHOUT_LIST:
            begin = end + 1
            end = begin + calls[end]
            numbers = numbers + calls[begin:end]
        at = end
        answer = answer_of(deck, call, numbers)
        given.append(len(answer))
        given.extend(answer)
    return given
