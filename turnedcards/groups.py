"""All that comes of some moves, each done any number of times, in any order."""

from turnedcards.moves import followed, nothing, undone


class Group:
    """The group of some moves, told by what it can bring to each place if those ahead of it are kept.

    found has moves of the group, undoing a dict for each place: for each of
    those that change this place and none ahead of it, what it brings there
    (from which place, and 1 if it is turned, else 0), and the move undone.
    """

    def __init__(self, moves):
        size = len(moves[0])
        self.undoing = [{(place, 0): nothing(size)} for place in range(size)]
        self.found = []
        for move in moves:
            self.enter(move)

    def enter(self, move):
        """Enters the move and all that comes of it and of what was there.

        If each two of the moves found, one behind the other, come down to
        nothing, so does all that comes of them: then all of it is there.
        """
        waiting = [move]
        while len(waiting) > 0:
            rest = self.rest_of(waiting.pop())
            place = first_changed(rest)
            if place < len(rest):
                self.undoing[place][rest[place]] = undone(rest)
                self.found.append(rest)
                for other in self.found:
                    waiting.append(followed(rest, other))
                    waiting.append(followed(other, rest))

    def rest_of(self, move):
        """What is left of the move when place by place is undone, as far as that can be."""
        rest = move
        for place, known in enumerate(self.undoing):
            if rest[place] not in known:
                return rest
            rest = followed(known[rest[place]], rest)
        return rest

    def has(self, move):
        return first_changed(self.rest_of(move)) == len(move)

    def size_of_all(self):
        size = 1
        for known in self.undoing:
            size = size * len(known)
        return size


def first_changed(move):
    """The first place to which another card comes or where it is turned; if there is none, the size."""
    for place, source in enumerate(move):
        if source != (place, 0):
            return place
    return len(move)


def brought_to(moves, start):
    """Pairs, rising: each place to which the moves bring the card at the start, and 1 if it is turned, else 0."""
    reached = {(start, 0): True}
    waiting = [(start, 0)]
    while len(waiting) > 0:
        here = waiting.pop()
        for move in moves:
            # This goes where the move comes from; done often enough, a move does that, too.
            source = move[here[0]]
            there = (source[0], (source[1] + here[1]) % 2)
            if there not in reached:
                reached[there] = True
                waiting.append(there)
    return sorted(list(reached))
