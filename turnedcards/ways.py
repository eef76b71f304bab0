"""Ways: lists of cuts, with turn 2 between each two of them."""

from turnedcards.moves import cut, followed, moved, nothing, turn
from turnedcards.rows import odd_differences, side_of


class Ring:
    """Cards in a ring whose places stay, and the cuts that were needed so far.

    top is the place of the ring that lies on top of the row.
    """

    def __init__(self, cards, top):
        self.cards = list(cards)
        self.size = len(cards)
        self.top = top
        self.cuts = []

    def bring_up(self, place):
        self.cuts.append((place - self.top) % self.size)
        self.top = place

    def exchange(self, place):
        below = (place + 1) % self.size
        self.bring_up(place)
        card = self.cards[place]
        self.cards[place] = -self.cards[below]
        self.cards[below] = -card

    def place_of(self, number):
        return [abs(card) for card in self.cards].index(number)


def ring_of(row, other):
    """The ring with which the way from the row to the other one begins."""
    if len(row) % 2 == 0 and odd_differences(row, other)[0] == 1:
        # Cut 1 comes first: what was on top is the ring's last place then.
        return Ring(row[1:] + row[:1], len(row) - 1)
    return Ring(row, 0)


def put_in_order(ring, other):
    for place, card in enumerate(other):
        at = ring.place_of(abs(card))
        while at > place:
            at = at - 1
            ring.exchange(at)


def cards_on_wrong_side(ring, other):
    """The numbers of these cards; both have the same order of numbers."""
    return [abs(card) for place, card in enumerate(other) if side_of(card) != side_of(ring.cards[place])]


def bring_round(ring, number):
    start = ring.place_of(number)
    for step in range(ring.size - 1):
        ring.exchange((start + step) % ring.size)


def way_to(row, other):
    """The way that is told from the row to another one that can be come to."""
    ring = ring_of(row, other)
    put_in_order(ring, other)
    # With an even number of cards none is on the wrong side.
    for number in cards_on_wrong_side(ring, other):
        bring_round(ring, number)
    ring.bring_up(ring.place_of(abs(other[0])))
    return ring.cuts


def is_way(numbers, size):
    if len(numbers) == 0 or (size == 1 and len(numbers) > 1):
        return False
    return all([number >= 0 and number < size for number in numbers])


def walked(row, way):
    """The row at the way's end."""
    size = len(row)
    result = moved(row, cut(size, way[0]))
    for number in way[1:]:
        two_turned = moved(result, turn(size, 2))
        result = moved(two_turned, cut(size, number))
    return result


def fewest_cuts(size):
    """For each move that cuts with turn 2 behind each make: the cuts, as few as can be, the first of these."""
    start = tuple(nothing(size))
    cuts = {start: ()}
    if size == 1:
        return cuts
    steps = [followed(cut(size, number), turn(size, 2)) for number in range(size)]
    level = [start]
    while len(level) > 0:
        further = []
        # Levels are in the order of their cuts: what comes first to a move is its first way.
        for move in level:
            for number, step in enumerate(steps):
                there = tuple(followed(move, step))
                if there not in cuts:
                    cuts[there] = cuts[move] + (number,)
                    further.append(there)
        level = further
    return cuts


def turns_and_cuts(way):
    return (len(way), way)


def least_way(move, cuts):
    """The first of the ways with fewest turns that do the move."""
    size = len(move)
    ways = []
    for number in range(size):
        # The last cut is undone by cutting on, till all are through.
        before = tuple(followed(move, cut(size, size - number)))
        ways.append(cuts[before] + (number,))
    return min(ways, key=turns_and_cuts)
