"""Rows: what one is, the sides of its cards and their sums."""

MOST_CARDS = 52


def is_row(numbers, size):
    """Whether these are the cards 1 to size, each once, on whichever side."""
    # Long lists are told by their length alone, ahead of being sorted.
    if len(numbers) != size:
        return False
    return sorted([abs(number) for number in numbers]) == list(range(1, size + 1))


def is_deck(numbers):
    return len(numbers) >= 1 and len(numbers) <= MOST_CARDS and is_row(numbers, len(numbers))


def side_of(card):
    return 1 if card < 0 else 0


def faces_up(row):
    return sum([side_of(card) for card in row])


def sums_of(row):
    """The cards' sums, by rising cards."""
    sums = [0] * len(row)
    for place, card in enumerate(row):
        sums[abs(card) - 1] = place + side_of(card)
    return sums


def odd_differences(row, other):
    """For each card, rising: 1 if its sums in the two rows differ by an odd number, else 0."""
    return [(one + two) % 2 for one, two in zip(sums_of(row), sums_of(other))]


def with_sides(numbers, sides):
    """The row of these cards' numbers with these sides."""
    return [-number if side == 1 else number for number, side in zip(numbers, sides)]
