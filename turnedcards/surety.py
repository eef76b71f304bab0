"""Whether a condition holds of all rows that can be come to, or the first one of which it does not.

A case is a dict of how the cards that a condition names lie: for each of them
1 if its place is odd, else 0, and its side. No condition asks more of a row.
"""

from turnedcards.conditions import holds_of, named_cards
from turnedcards.reach import settled_by_others, sides_by_one
from turnedcards.rows import faces_up, side_of, sums_of, with_sides


def all_cases(cards):
    """All cases of these cards, whether or not they lie so in some row."""
    cases = [{}]
    for card in cards:
        longer = []
        for case in cases:
            for lie in ((0, 0), (0, 1), (1, 0), (1, 1)):
                more = dict(case)
                more[card] = lie
                longer.append(more)
        cases = longer
    return cases


def sides_in_reach(row, case):
    """Whether some row that can be come to has the cards on these sides, at such places."""
    if len(row) % 2 == 0:
        sums = sums_of(row)
        differences = [(sums[card - 1] + sum(case[card])) % 2 for card in case]
        return all([difference == differences[0] for difference in differences])
    if len(case) < len(row):
        # Any other card can make the faces up even or odd.
        return True
    return sum([case[card][1] for card in case]) % 2 == faces_up(row) % 2


def have_room(cards, case, place, size):
    """Whether there are odd and even places enough for these cards from this place on."""
    odd_places = size // 2 - place // 2
    even_places = size - place - odd_places
    odd = sum([case[card][0] for card in cards])
    return odd <= odd_places and len(cards) - odd <= even_places


def failing_cases(row, steps):
    """The cases in rows that can be come to and of which the condition does not hold."""
    named = named_cards(steps)
    failing = []
    for case in all_cases(named):
        if sides_in_reach(row, case) and have_room(named, case, 0, len(row)) and not holds_of(steps, case):
            failing.append(case)
    return failing


def cases_left(cases, numbers, card, size):
    """Those of the cases that can still be if this card comes behind these numbers."""
    place = len(numbers)
    to_come = [other for other in cases[0] if other != card and other not in numbers]
    left = []
    for case in cases:
        at_its_place = card not in case or case[card][0] == place % 2
        if at_its_place and have_room(to_come, case, place + 1, size):
            left.append(case)
    return left


def first_row_of(case, row, numbers):
    """The first row that can be come to with these numbers in this case."""
    if len(row) % 2 == 0:
        card = list(case)[0]
        return with_sides(numbers, sides_by_one(row, numbers, numbers.index(card), case[card][1]))
    sides = [case[card][1] if card in case else 0 for card in numbers]
    others = [place for place, card in enumerate(numbers) if card not in case]
    if len(others) > 0:
        sides = settled_by_others(row, sides, others[-1])
    return with_sides(numbers, sides)


def sides_of(row):
    return [side_of(card) for card in row]


def first_failing_row(row, steps):
    """The first row in order that can be come to and of which the condition does not hold; else empty."""
    cases = failing_cases(row, steps)
    if len(cases) == 0:
        return []
    size = len(row)
    numbers = []
    to_come = list(range(1, size + 1))
    for place in range(size):
        # Some card can always come next, as there is room in all cases that are left.
        at = 0
        left = cases_left(cases, numbers, to_come[at], size)
        while len(left) == 0:
            at = at + 1
            left = cases_left(cases, numbers, to_come[at], size)
        numbers.append(to_come.pop(at))
        cases = left
    return min([first_row_of(case, row, numbers) for case in cases], key=sides_of)
