"""What handlings do, whichever cards lie where.

A move is a list with a pair for each place, from the top: the place where
the card that comes there stands before, and 1 if it is turned, else 0.
"""


def nothing(size):
    return [(place, 0) for place in range(size)]


def cut(size, number):
    return [((place + number) % size, 0) for place in range(size)]


def turned_round(size, number, turned):
    """The order of the first cards turned round, and their sides too if turned is 1."""
    first = [(number - 1 - place, turned) for place in range(number)]
    return first + [(place, 0) for place in range(number, size)]


def turn(size, number):
    return turned_round(size, number, 1)


def deal(size, number):
    return turned_round(size, number, 0)


def every(size):
    return [(place, place % 2) for place in range(size)]


def followed(first, second):
    """The one move, then the other."""
    both = []
    for between, turned in second:
        both.append((first[between][0], (first[between][1] + turned) % 2))
    return both


def undone(move):
    back = nothing(len(move))
    for place, source in enumerate(move):
        back[source[0]] = (place, source[1])
    return back


def repeated(move, times):
    """The move so many times, by doubling: times may be huge."""
    result = nothing(len(move))
    doubled = move
    left = times
    while left > 0:
        if left % 2 == 1:
            result = followed(result, doubled)
        doubled = followed(doubled, doubled)
        left = left // 2
    return result


def moved(row, move):
    """The row behind the move."""
    return [-row[place] if turned == 1 else row[place] for place, turned in move]


def move_between(row, other):
    """The move that leads from the one row to the other."""
    places = {}
    for place, card in enumerate(row):
        places[abs(card)] = place
    move = []
    for card in other:
        place = places[abs(card)]
        move.append((place, 0 if row[place] == card else 1))
    return move


def round_length(move, start):
    """How many times the move is done until what stands at start is there again, unturned."""
    place = move[start][0]
    turned = move[start][1]
    steps = 1
    while place != start or turned == 1:
        turned = (turned + move[place][1]) % 2
        place = move[place][0]
        steps = steps + 1
    return steps


def common_divisor(one, other):
    while other > 0:
        rest = one % other
        one = other
        other = rest
    return one


def order_of(move):
    """The least number of times, 1 or more, behind which the move has changed nothing."""
    order = 1
    for start in range(len(move)):
        length = round_length(move, start)
        order = order // common_divisor(order, length) * length
    return order
