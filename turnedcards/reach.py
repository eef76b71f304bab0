"""The rows that can be come to: which they are, how many, and their numbers."""

from turnedcards.rows import faces_up, odd_differences, side_of, sums_of, with_sides


def can_come(row, other):
    """Whether free handlings lead from the one row to the other."""
    if len(row) % 2 == 1:
        # A card that goes once round a ring of odd size can come on either
        # side, but turning two never changes whether the faces up are even.
        return faces_up(row) % 2 == faces_up(other) % 2
    # Turning two keeps each card's sum even or odd, and a cut by 1 changes all.
    differences = odd_differences(row, other)
    return all([difference == differences[0] for difference in differences])


def sides_of_one_order(size):
    """How many rows with the same cards' numbers can be come to."""
    if size % 2 == 0:
        return 2
    sides = 1
    for card in range(1, size):
        sides = sides * 2
    return sides


def count_of_rows(size):
    """How many rows can be come to, from any one row."""
    count = sides_of_one_order(size)
    for card in range(1, size + 1):
        count = count * card
    return count


def rank_of_numbers(row):
    """How many orders of the cards' numbers are ahead of the row's."""
    numbers = [abs(card) for card in row]
    rank = 0
    for place, number in enumerate(numbers):
        behind = numbers[place + 1:]
        smaller = len([other for other in behind if other < number])
        rank = rank * (len(behind) + 1) + smaller
    return rank


def rank_of_sides(row):
    """How many rows with the row's numbers that can be come to are ahead of it."""
    if len(row) % 2 == 0:
        # There are two, with all sides unlike: the topmost one decides.
        return side_of(row[0])
    rank = 0
    # The last card's side follows from the others'.
    for card in row[:-1]:
        rank = rank * 2 + side_of(card)
    return rank


def rank_of(row):
    """How many rows are ahead of it among those that can be come to."""
    return rank_of_numbers(row) * sides_of_one_order(len(row)) + rank_of_sides(row)


def sides_by_one(row, numbers, place, side):
    """The sides of the row with these numbers that can be come to, if that place has this side.

    The row has an even number of cards.
    """
    sums = sums_of(row)
    sides = [(sums[number - 1] + at) % 2 for at, number in enumerate(numbers)]
    change = (sides[place] + side) % 2
    return [(other + change) % 2 for other in sides]


def settled_by_others(row, sides, place):
    """The sides, but at that place the one with which they can be come to.

    The row has an odd number of cards.
    """
    settled = list(sides)
    settled[place] = (faces_up(row) + sum(sides[:place]) + sum(sides[place + 1:])) % 2
    return settled


def numbers_of_rank(size, rank):
    """The cards' numbers in the order that has so many orders ahead of it."""
    choices = []
    for left in range(1, size + 1):
        choices.append(rank % left)
        rank = rank // left
    to_come = list(range(1, size + 1))
    numbers = []
    for choice in reversed(choices):
        numbers.append(to_come.pop(choice))
    return numbers


def sides_of_rank(size, rank):
    """The sides of all cards but the last, from the top, with so many ahead of them."""
    sides = []
    for place in range(size - 1):
        sides.append(rank % 2)
        rank = rank // 2
    return list(reversed(sides))


def row_of_rank(row, rank):
    """The row ahead of which so many are among those that can be come to from the row."""
    size = len(row)
    numbers = numbers_of_rank(size, rank // sides_of_one_order(size))
    rest = rank % sides_of_one_order(size)
    if size % 2 == 0:
        return with_sides(numbers, sides_by_one(row, numbers, 0, rest))
    sides = settled_by_others(row, sides_of_rank(size, rest) + [0], size - 1)
    return with_sides(numbers, sides)
