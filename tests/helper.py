"""What the tests share: calls as lists, and handlings done the plain way.

The plain ways below are written apart from the program, straight from the
document, so that the two can be held against one another.
"""

import itertools
import re

from turnedcards.deck import answers

NUMBERS = {
    "load": 0, "row": 1, "act": 2, "shape": 3, "hand": 4, "order": 5, "tame": 6,
    "can": 7, "way": 8, "walk": 9, "count": 10, "rank": 11, "nth": 12, "least": 13, "fate": 14, "holds": 15, "sure": 16,
    "fold": 17, "alike": 18, "group": 19, "size": 20, "member": 21, "orbit": 22,
}
OWN_NUMBERS = {"fold": 2, "alike": 2, "orbit": 1}
WITHOUT_LIST = ("row", "count", "fate", "alike", "size", "orbit")
WITH_TEXT = ("act", "shape", "hand", "order", "tame")
WITH_CONDITION = ("holds", "sure")
WITH_ROW = ("can", "way", "rank", "least")


def text(words):
    """The bytes of a text, which may be told as a list of bytes too."""
    if isinstance(words, list):
        return words
    return list(words.encode("latin-1"))


def flat(calls):
    """Calls such as ("act", "turn 2") or ("fold", 2, 2, [0, 1]) as the one list that is handed in."""
    numbers = []
    for call in calls:
        own = OWN_NUMBERS.get(call[0], 0)
        numbers.append(NUMBERS[call[0]])
        numbers.extend(call[1:1 + own])
        if call[0] not in WITHOUT_LIST:
            told = text(call[1 + own])
            numbers.append(len(told))
            numbers.extend(told)
    return numbers


def apart(given):
    """What is given back, as one list for each answer."""
    found = []
    at = 0
    while at < len(given):
        end = at + 1 + given[at]
        assert given[at] > 0 and end <= len(given), "a wrong length stands ahead of an answer"
        found.append(given[at + 1:end])
        at = end
    return found


def run(*calls):
    return apart(answers(flat(calls)))


def last(*calls):
    return run(*calls)[-1]


def run_many(row, calls):
    """Answers to any number of calls on this row, loaded anew for each 199."""
    found = []
    for at in range(0, len(calls), 199):
        found.extend(run(("load", row), *calls[at:at + 199])[1:])
    return found


def on(row, name, *told):
    """The answer of one call on a deck with this row."""
    return last(("load", row), (name, *told))


def rising(size):
    return list(range(1, size + 1))


def decimal(answer):
    """The number that stands behind the 0 in decimal."""
    assert answer[0] == 0
    digits = bytes(answer[1:]).decode("ascii")
    assert digits == str(int(digits))
    return int(digits)


def random_row(chance, size):
    return [card * chance.choice((1, -1)) for card in chance.sample(rising(size), size)]


def all_rows(size):
    """All rows of so many cards, in order."""
    rows = []
    for order in itertools.permutations(rising(size)):
        for sides in itertools.product((1, -1), repeat=size):
            rows.append([card * side for card, side in zip(order, sides)])
    return rows


def cut(row, number):
    return row[number:] + row[:number]


def turn(row, number):
    return [-card for card in reversed(row[:number])] + row[number:]


def deal(row, number):
    return row[:number][::-1] + row[number:]


def every(row):
    return [-card if place % 2 == 1 else card for place, card in enumerate(row)]


def random_end(chance, row):
    """Some row that can be come to, by many cuts and turns."""
    size = len(row)
    here = row
    for step in range(6 * size):
        here = cut(here, chance.randrange(size))
        if size > 1:
            here = turn(here, 2)
    return cut(here, chance.randrange(size))


def random_handling(chance, size, depth):
    """A text without faults, spaced anyhow."""
    parts = []
    for step in range(chance.randrange(4)):
        word = chance.choice(("cut", "turn", "deal", "every", "back", "times"))
        if word in ("cut", "turn", "deal"):
            parts.append(word + chance.choice(("", " ", "\n ")) + str(chance.randrange(size + 1)))
        elif word == "every" or depth == 0:
            parts.append("every")
        else:
            head = "back" if word == "back" else str(chance.choice((0, 1, 2, 3, 7, 100, 10 ** 12 - 1, 10 ** 12)))
            parts.append(head + chance.choice(("(", " ( ", "\n(")) + random_handling(chance, size, depth - 1) + ")")
    return joined(chance, parts)


def joined(chance, parts):
    """The parts with or without something between, so that none runs into the next one."""
    words = ""
    for part in parts:
        together = words[-1:].isalpha() and part[0].isalpha() or words[-1:].isdigit() and part[0].isdigit()
        words += chance.choice((" ", "\n") if together else ("", " ", "\n")) + part
    return words


def come_to(row):
    """All rows to which free handlings lead from this one, found by trying them all."""
    found = {tuple(row)}
    waiting = [row]
    while waiting:
        here = waiting.pop()
        steps = [cut(here, 1)]
        if len(row) > 1:
            steps.append(turn(here, 2))
        for there in steps:
            if tuple(there) not in found:
                found.add(tuple(there))
                waiting.append(there)
    return found


def in_order(rows):
    """Rows sorted as the document orders them."""
    return sorted(rows, key=lambda row: ([abs(card) for card in row], [card < 0 for card in row]))


def walk(row, way):
    here = cut(row, way[0])
    for number in way[1:]:
        here = cut(turn(here, 2), number)
    return here


class Fault(Exception):
    def __init__(self, place):
        Exception.__init__(self, place)
        self.place = place


class PlainReader:
    """Reads a handling's text by going down into its brackets."""

    def __init__(self, words, size):
        self.words = words
        self.size = size
        self.found = [
            (match.group(), match.start())
            for match in re.finditer(r"[a-z]+|[0-9]+|[^ \n]", words, re.DOTALL)
        ]
        self.at = 0

    def peek(self):
        if self.at == len(self.found):
            return ""
        return self.found[self.at][0]

    def fault(self):
        if self.at == len(self.found):
            raise Fault(len(self.words))
        raise Fault(self.found[self.at][1])

    def number(self, most, least=0):
        if not re.fullmatch(r"0|[1-9][0-9]{0,12}", self.peek()) or not least <= int(self.peek()) <= most:
            self.fault()
        self.at += 1
        return int(self.found[self.at - 1][0])

    def bracket(self, depth):
        if self.peek() != "(" or depth == 20:
            self.fault()
        self.at += 1
        inner = self.handlings(depth + 1)
        if self.peek() != ")":
            self.fault()
        self.at += 1
        return inner

    def handlings(self, depth):
        steps = []
        while self.peek() not in ("", ")") and not (self.peek() == ";" and depth == 0):
            word = self.peek()
            if word in ("cut", "turn", "deal"):
                self.at += 1
                steps.append((word, self.number(self.size)))
            elif word == "every":
                self.at += 1
                steps.append((word, 0))
            elif word == "back":
                self.at += 1
                steps.append((word, self.bracket(depth)))
            else:
                times = self.number(10 ** 12)
                steps.append((times, self.bracket(depth)))
        return steps

    def whole(self):
        steps = self.handlings(0)
        if self.peek() != "":
            self.fault()
        return steps

    def several(self):
        found = [self.handlings(0)]
        while self.peek() == ";":
            self.at += 1
            found.append(self.handlings(0))
        if self.peek() != "":
            self.fault()
        return found


class PlainCondition(PlainReader):
    """Reads a condition's text by going down; what it finds is asked of a row by asked."""

    def whole(self):
        found = self.either(0)
        if self.peek() != "":
            self.fault()
        return found

    def either(self, depth):
        found = self.both(depth)
        while self.peek() == "or":
            self.at += 1
            found = ("or", found, self.both(depth))
        return found

    def both(self, depth):
        found = self.claim(depth)
        while self.peek() == "and":
            self.at += 1
            found = ("and", found, self.claim(depth))
        return found

    def claim(self, depth):
        word = self.peek()
        if word in ("not", "(") and depth == 20 or word not in ("not", "(", "up", "even", "like"):
            self.fault()
        self.at += 1
        if word == "not":
            return ("not", self.claim(depth + 1))
        if word == "(":
            inner = self.either(depth + 1)
            if self.peek() != ")":
                self.fault()
            self.at += 1
            return inner
        cards = [self.number(self.size, 1)]
        if word == "like":
            cards.append(self.number(self.size, 1))
        return (word, *cards)


def asked(found, row):
    """Whether what a PlainCondition has found holds of the row."""
    word, first = found[0], found[1]
    if word == "up":
        return -first in row
    if word == "even":
        return [abs(card) for card in row].index(first) % 2 == 0
    if word == "like":
        return (-first in row) == (-found[2] in row)
    if word == "not":
        return not asked(first, row)
    if word == "and":
        return asked(first, row) and asked(found[2], row)
    return asked(first, row) or asked(found[2], row)


def cards_in(found):
    """The unlike cards that a condition names."""
    if found[0] in ("up", "even", "like"):
        return set(found[1:])
    return set().union(*[cards_in(part) for part in found[1:]])


def plain_holds(words, row):
    """What holds must answer on this row."""
    if len(words) > 600:
        return [-7]
    try:
        found = PlainCondition(words, len(row)).whole()
    except Fault as fault:
        return [-1000 - fault.place]
    return [0, 1 if asked(found, row) else 0]


def random_condition(chance, cards, depth):
    """A condition's text without faults about some of the cards, spaced anyhow."""
    parts = []
    for step in range(chance.choice((1, 1, 2, 2, 3))):
        if parts:
            parts.append(chance.choice(("and", "or")))
        if chance.randrange(3) == 0:
            parts.append("not")
        if depth > 0 and chance.randrange(2) == 0:
            parts += ["(", random_condition(chance, cards, depth - 1), ")"]
        else:
            word = chance.choice(("up", "even", "like"))
            parts += [word, str(chance.choice(cards))]
            if word == "like":
                parts.append(str(chance.choice(cards)))
    return joined(chance, parts)


def plain_back(steps, row):
    """The row from which the steps lead to this one."""
    size = len(row)
    labels = plain_done(steps, rising(size))
    before = [0] * size
    for card, label in zip(row, labels):
        before[abs(label) - 1] = card if label > 0 else -card
    return before


def plain_times(steps, times, row):
    """The row behind so many times the steps, leaving out whole rounds."""
    seen = [row]
    while len(seen) <= times:
        here = plain_done(steps, seen[-1])
        if here == row:
            return seen[times % len(seen)]
        seen.append(here)
    return seen[times]


def plain_done(steps, row):
    for word, told in steps:
        if word == "cut":
            row = cut(row, told)
        elif word == "turn":
            row = turn(row, told)
        elif word == "deal":
            row = deal(row, told)
        elif word == "every":
            row = every(row)
        elif word == "back":
            row = plain_back(told, row)
        else:
            row = plain_times(told, word, row)
    return row


def plain_act(words, row):
    """What act must answer on this row."""
    if len(words) > 600:
        return [-7]
    try:
        steps = PlainReader(words, len(row)).whole()
    except Fault as fault:
        return [-1000 - fault.place]
    return [0] + plain_done(steps, row)
